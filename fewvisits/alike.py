"""Which states can all that others can, and the kind that has each of alike states once."""

from fewvisits.checks import need_number
from fewvisits.kinds import Kind, behind_of, moves_of, need_kind
from fewvisits.papers import Denial, Paper, fixed
from fewvisits.plays import ways


class Alike(Paper):
    """In each of these pairs of states the other can all that the one can."""

    def __init__(self, pairs):
        self.word = "alike"
        self.parts = fixed((pairs,))
        self.pairs = self.parts[0]


class Parts(Denial):
    """These operations can be played from the one state, and not from the other."""

    def __init__(self, operations):
        self.word = "parts"
        self.parts = fixed((operations,))
        self.operations = self.parts[0]


def way_back(came, pair):
    """The operations by which a pair was come to; came tells the pair ahead of each, and the operation."""
    found = []
    while came[pair] is not None:
        pair, move = came[pair]
        found.append(move)
    return found[::-1]


def can_as(kind, one, other):
    """Whether other can all that one can."""
    need_kind(kind)
    need_number(one, kind.states, "one")
    need_number(other, kind.states, "other")
    start = (int(one), int(other))
    came = {start: None}
    queue = [start]
    place = 0
    while place < len(queue):
        pair = queue[place]
        place = place + 1
        for ask, answer, behind in moves_of(kind, pair[0]):
            beside = behind_of(kind, pair[1], ask, answer)
            if beside is None:
                return Parts(way_back(came, pair) + [(ask, answer)])
            if (behind, beside) not in came:
                came[(behind, beside)] = (pair, (ask, answer))
                queue.append((behind, beside))
    return Alike(sorted(queue))


def parted(kind, marks):
    """The numbers of the states' classes when those of one class are parted that lead to unlike classes."""
    classes = {}
    found = []
    for state in range(kind.states):
        leads = [(ask, answer, marks[behind]) for ask, answer, behind in moves_of(kind, state)]
        found.append(classes.setdefault((marks[state], tuple(leads)), len(classes)))
    return found


def class_marks(kind):
    """For each state a number, the same for alike states only."""
    marks = [0 for _ in range(kind.states)]
    finer = parted(kind, marks)
    while max(finer) > max(marks):
        marks = finer
        finer = parted(kind, marks)
    return marks


def alike_classes(kind):
    """The reachable states, parted into lots of alike ones, ascending."""
    need_kind(kind)
    marks = class_marks(kind)
    lots = {}
    for state in sorted(ways(kind)):
        lots.setdefault(marks[state], []).append(state)
    return tuple(sorted([tuple(lots[mark]) for mark in lots]))


def way_to(kind, state):
    """The shortest, then least list of operations from the first state to this one, None if there is none."""
    need_kind(kind)
    need_number(state, kind.states, "state")
    return ways(kind).get(state)


def reduced(kind):
    """The kind with one state for each class of alike reachable states."""
    need_kind(kind)
    marks = class_marks(kind)
    numbers = {}
    leaders = []
    # The states come by their ways: so the first one of a class has the way to the class.
    for state in ways(kind):
        if marks[state] not in numbers:
            numbers[marks[state]] = len(leaders)
            leaders.append(state)
    rows = [(number, ask, answer, numbers[marks[behind]])
            for number, state in enumerate(leaders) for ask, answer, behind in moves_of(kind, state)]
    return Kind(kind.asks, kind.answers, len(leaders), 0, rows)
