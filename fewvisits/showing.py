"""What lots of states, pairs of states and lists of operations show of a kind."""

from fewvisits.besides import crossings_at
from fewvisits.check_alike import is_pair_of_states
from fewvisits.checks import is_lot
from fewvisits.kinds import moves_of
from fewvisits.parting import led_pairs
from fewvisits.plays import are_operations, lead


def is_closed_lot(kind, value):
    """Whether it is a lot of states, the first one and with each one all next ones among them."""
    if not is_lot(value, kind.states) or kind.first not in value:
        return False
    return all([move[2] in value for state in value for move in moves_of(kind, state)])


def are_carried(kind, moves, value):
    """Whether it is a tuple of pairs of states, and each move of the one of a pair leads from both to a pair of it."""
    if not isinstance(value, tuple) or not all([is_pair_of_states(kind, pair) for pair in value]):
        return False
    told = {pair: True for pair in value}
    return all([led in told for one, other in told for led in led_pairs(kind, moves, one, other)])


def cross_within(kind, places, couples, pairs):
    """Whether these couples, wherever at these places both are possible, lead to pairs told, both ways round."""
    told = {pair: True for pair in pairs}
    for state in places:
        for row in crossings_at(kind, state, couples):
            if row[2:] not in told or (row[3], row[2]) not in told:
                return False
    return True


def shows_jar(kind, before, first, second, behind):
    """Whether these parts, two operations and two values, tell a Jars of the two, as they stand."""
    if not are_operations(kind, before) or not are_operations(kind, behind):
        return False
    state = lead(kind, kind.first, before)
    if state is None or lead(kind, state, (first,)) is None or lead(kind, state, (second,)) is None:
        return False
    if lead(kind, state, (first, second) + behind) is not None:
        return False
    return behind == () or lead(kind, state, (second, first) + behind) is not None
