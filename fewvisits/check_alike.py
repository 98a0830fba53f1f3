"""Checking papers on states that can all that others can."""

from fewvisits.alike import Alike, Parts
from fewvisits.checks import is_within, need_number
from fewvisits.kinds import behind_of, moves_of, need_kind
from fewvisits.plays import are_operations, lead


def is_pair_of_states(kind, value):
    """Whether it is a pair of states of the kind."""
    if not isinstance(value, tuple) or len(value) != 2:
        return False
    return all([is_within(state, 0, kind.states - 1) for state in value])


def leads_within(kind, pair, told):
    """Whether each operation that is possible from the one is from the other, and leads from both to a pair told."""
    one, other = pair
    for ask, answer, behind in moves_of(kind, one):
        if (behind, behind_of(kind, other, ask, answer)) not in told:
            return False
    return True


def are_alike_pairs(kind, one, other, pairs):
    """Whether it is a tuple of pairs of states that shows that other can all that one can."""
    if not isinstance(pairs, tuple) or not all([is_pair_of_states(kind, pair) for pair in pairs]):
        return False
    told = {pair: True for pair in pairs}
    return (one, other) in told and all([leads_within(kind, pair, told) for pair in pairs])


def shows_alike(kind, one, other, value):
    """Whether a value is a right paper on whether other can all that one can."""
    need_kind(kind)
    need_number(one, kind.states, "one")
    need_number(other, kind.states, "other")
    if isinstance(value, Alike):
        return are_alike_pairs(kind, one, other, value.pairs)
    if isinstance(value, Parts) and are_operations(kind, value.operations):
        return lead(kind, one, value.operations) is not None and lead(kind, other, value.operations) is None
    return False
