"""Checking papers on what is unnoticed, and on which spreads are right."""

from fewvisits.besides import need_operation
from fewvisits.kinds import behind_of, is_operation, need_kind
from fewvisits.papers import fixed
from fewvisits.parting import moves_by
from fewvisits.plays import are_operations, lead
from fewvisits.right import Missed, Right, Unmet, moves_up_to, noted_at, unmeeting
from fewvisits.showing import are_carried, cross_within, is_closed_lot, shows_jar
from fewvisits.spreads import missing, need_spread, numbers_of
from fewvisits.unnoticed import Noticed, Unnoticed, lot_of


def step_within(kind, places, operation, pairs):
    """Whether an operation, wherever it is possible at these places, leads from the state to one of a pair told."""
    told = {pair: True for pair in pairs}
    for state in places:
        behind = behind_of(kind, state, operation[0], operation[1])
        if behind is not None and (state, behind) not in told:
            return False
    return True


def shows_notice(kind, by, before, operation, behind):
    """Whether these values, by them and an operation, tell a Noticed, as they stand; by is a dict of operations."""
    if not are_operations(kind, before) or not are_operations(kind, behind):
        return False
    if not all([move in by for move in behind]):
        return False
    state = lead(kind, kind.first, before)
    if state is None or lead(kind, state, behind) is None or lead(kind, state, (operation,)) is None:
        return False
    return lead(kind, state, (operation,) + behind) is None


def shows_unnoticed(kind, operation, by, value):
    """Whether a value is a right paper on whether an operation is unnoticed by others."""
    need_kind(kind)
    need_operation(kind, operation, "operation")
    lot = lot_of(kind, by)
    told = fixed(operation)
    if isinstance(value, Unnoticed):
        if not is_closed_lot(kind, value.places) or not are_carried(kind, moves_by(kind, lot), value.pairs):
            return False
        return step_within(kind, value.places, told, value.pairs)
    return isinstance(value, Noticed) and shows_notice(kind, lot, value.before, told, value.behind)


def shows_missed_at(spread, places, up, pairs):
    """Whether pairs show that the operations whose notes and up are the sites are unnoticed by who may miss them."""
    if not are_carried(spread.kind, moves_up_to(spread, up), pairs):
        return False
    operations = noted_at(spread, spread.sites - up)
    return all([step_within(spread.kind, places, operation, pairs) for operation in operations])


def is_shown_right(spread, places, pairs, missed):
    """Whether the parts of a Right show that a spread is right."""
    kind = spread.kind
    if not is_closed_lot(kind, places) or not are_carried(kind, moves_by(kind, None), pairs):
        return False
    if not cross_within(kind, places, unmeeting(spread), pairs):
        return False
    if not isinstance(missed, tuple) or len(missed) != spread.sites + 1:
        return False
    return all([shows_missed_at(spread, places, up, told) for up, told in enumerate(missed)])


def is_told(spread, value):
    """Whether it is an operation of which the spread tells the numbers."""
    return is_operation(spread.kind, value) and numbers_of(spread, value) is not None


def shows_unmet(spread, paper):
    """Whether an Unmet is right."""
    if not is_told(spread, paper.first) or not is_told(spread, paper.second):
        return False
    if (paper.first, paper.second) not in unmeeting(spread):
        return False
    return shows_jar(spread.kind, paper.before, paper.first, paper.second, paper.behind)


def shows_missed(spread, paper):
    """Whether a Missed is right."""
    if not is_told(spread, paper.operation):
        return False
    by = {operation: True for operation in missing(spread, paper.operation[0], paper.operation[1])}
    return shows_notice(spread.kind, by, paper.before, paper.operation, paper.behind)


def shows_right(spread, value):
    """Whether a value is a right paper on whether a spread is right."""
    need_spread(spread)
    if isinstance(value, Right):
        return is_shown_right(spread, value.places, value.pairs, value.missed)
    if isinstance(value, Unmet):
        return shows_unmet(spread, value)
    return isinstance(value, Missed) and shows_missed(spread, value)
