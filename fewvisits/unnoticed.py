"""Which operations are unnoticed by others."""

from fewvisits.besides import need_operation
from fewvisits.errors import BadNumber
from fewvisits.kinds import behind_of, need_kind
from fewvisits.papers import Denial, Paper, fixed
from fewvisits.parting import carried, least_apart, lengths_apart, moves_by
from fewvisits.plays import are_operations, ways


class Unnoticed(Paper):
    """At these places the operation leads to a state of which these pairs show that it can all by the others."""

    def __init__(self, places, pairs):
        self.word = "unnoticed"
        self.parts = fixed((places, pairs))
        self.places, self.pairs = self.parts


class Noticed(Denial):
    """Before, behind can be played; with the operation between the two it cannot."""

    def __init__(self, before, behind):
        self.word = "noticed"
        self.parts = fixed((before, behind))
        self.before, self.behind = self.parts


def lot_of(kind, by):
    """The operations of a list, as the keys of a dict; BadNumber for no list of operations of the kind."""
    if not are_operations(kind, by):
        raise BadNumber("by")
    return {fixed(operation): True for operation in by}


def able_pairs(kind, by):
    """All pairs (one, other) of reachable states such that other can all by these operations that one can."""
    need_kind(kind)
    lengths = lengths_apart(kind, moves_by(kind, lot_of(kind, by)))
    places = sorted(ways(kind))
    return tuple([(one, other) for one in places for other in places if (one, other) not in lengths])


def steps_of(kind, operation):
    """The pairs of each reachable state from which an operation is possible, and of the state to which it leads."""
    pairs = [(state, behind_of(kind, state, operation[0], operation[1])) for state in ways(kind)]
    return [pair for pair in pairs if pair[1] is not None]


def least_notice(kind, moves, lengths, operation):
    """The total, and the parts (before, behind), of the least Noticed of an operation, None if there is none.

    Moves and lengths are those of the operations by which it is noticed.
    """
    before_of = ways(kind)
    found = [(len(before_of[state]) + lengths[(state, behind)], before_of[state], state, behind)
             for state, behind in steps_of(kind, operation) if (state, behind) in lengths]
    if not found:
        return None
    many, before, state, behind = min(found)
    return (many, before, least_apart(kind, moves, lengths, state, behind))


def unnoticed(kind, operation, by):
    """Whether an operation is unnoticed by others."""
    need_kind(kind)
    need_operation(kind, operation, "operation")
    moves = moves_by(kind, lot_of(kind, by))
    told = fixed(operation)
    notice = least_notice(kind, moves, lengths_apart(kind, moves), told)
    if notice is not None:
        return Noticed(notice[1], notice[2])
    return Unnoticed(sorted(ways(kind)), carried(kind, moves, steps_of(kind, told)))
