"""Which two operations go beside one another."""

from fewvisits.alike import class_marks
from fewvisits.errors import BadNumber
from fewvisits.kinds import is_operation, moves_of, need_kind
from fewvisits.papers import Denial, Paper, fixed
from fewvisits.parting import carried, least_apart, lengths_apart, moves_by
from fewvisits.plays import lead, ways


class Goes(Paper):
    """At these places both operations can be played both ways round, and lead to pairs among these."""

    def __init__(self, places, pairs):
        self.word = "goes"
        self.parts = fixed((places, pairs))
        self.places, self.pairs = self.parts


class Jars(Denial):
    """Behind before both operations are possible; second, first lets behind be played, first, second does not."""

    def __init__(self, before, first, second, behind):
        self.word = "jars"
        self.parts = fixed((before, first, second, behind))
        self.before, self.first, self.second, self.behind = self.parts


def need_operation(kind, value, part):
    """Raises BadNumber with this part for no operation of the kind."""
    if not is_operation(kind, value):
        raise BadNumber(part)


def crossings_at(kind, state, couples):
    """For each couple of operations that are possible from a state: both, and the states behind both ways round.

    Couples are ordered pairs, all that are possible if None; None stands for the state behind what cannot be played.
    """
    possible = [move[:2] for move in moves_of(kind, state)]
    return [(first, second, lead(kind, state, (first, second)), lead(kind, state, (second, first)))
            for first in possible for second in possible if couples is None or (first, second) in couples]


def jar_length(lengths, one, other):
    """How many operations a shortest behind has that cannot be played from one, but from other; None without any.

    One is None if no behind is needed; lengths are those of lengths_apart.
    """
    if one is None:
        return 0
    return lengths.get((other, one))


def least_jar(kind, couples):
    """The parts of the shortest, then least Jars of these couples, None if there is none."""
    moves = moves_by(kind, None)
    lengths = lengths_apart(kind, moves)
    best = None
    ends = None
    for state, before in ways(kind).items():
        for first, second, one, other in crossings_at(kind, state, couples):
            many = jar_length(lengths, one, other)
            if many is not None and (best is None or (len(before) + many, before, first, second) < best):
                best = (len(before) + many, before, first, second)
                ends = (one, other)
    if best is None:
        return None
    behind = () if ends[0] is None else least_apart(kind, moves, lengths, ends[1], ends[0])
    return best[1:] + (behind,)


def carried_crossings(kind, couples):
    """The pairs behind these couples at all reachable states, and those to which operations lead from both."""
    ends = [row[2:] for state in ways(kind) for row in crossings_at(kind, state, couples)]
    return carried(kind, moves_by(kind, None), ends)


def goes_beside(kind, one, other):
    """Whether two operations go beside one another."""
    need_kind(kind)
    need_operation(kind, one, "one")
    need_operation(kind, other, "other")
    first, second = fixed(one), fixed(other)
    couples = {(first, second): True, (second, first): True}
    told = least_jar(kind, couples)
    if told is not None:
        return Jars(*told)
    return Goes(sorted(ways(kind)), carried_crossings(kind, couples))


def beside_table(kind):
    """All pairs of operations that do not go beside one another, both ways round, ascending."""
    need_kind(kind)
    marks = class_marks(kind)
    found = {}
    for state in ways(kind):
        for first, second, one, other in crossings_at(kind, state, None):
            if one is None or other is None or marks[one] != marks[other]:
                found[(first, second)] = True
    return tuple(sorted(list(found)))
