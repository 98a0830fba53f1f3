"""Which spreads are right."""

from fewvisits.besides import carried_crossings, least_jar
from fewvisits.papers import Denial, Paper, fixed
from fewvisits.parting import carried, lengths_apart, moves_by
from fewvisits.plays import ways
from fewvisits.spreads import need_spread, visiting_at_most
from fewvisits.unnoticed import least_notice, steps_of


class Right(Paper):
    """The spread is right: what does not meet goes beside, and what may be missed is unnoticed."""

    def __init__(self, places, pairs, missed):
        self.word = "right"
        self.parts = fixed((places, pairs, missed))
        self.places, self.pairs, self.missed = self.parts


class Unmet(Denial):
    """First and second do not meet, and do not go beside one another, as a Jars tells."""

    def __init__(self, before, first, second, behind):
        self.word = "unmet"
        self.parts = fixed((before, first, second, behind))
        self.before, self.first, self.second, self.behind = self.parts


class Missed(Denial):
    """The operation is noticed, as a Noticed tells, by operations that may miss it."""

    def __init__(self, before, operation, behind):
        self.word = "missed"
        self.parts = fixed((before, operation, behind))
        self.before, self.operation, self.behind = self.parts


def unmeeting(spread):
    """All pairs of operations that do not meet, both ways round, as the keys of a dict."""
    return {(one[:2], other[:2]): True for one in spread.rows for other in spread.rows
            if one[2] + other[2] <= spread.sites}


def moves_up_to(spread, most):
    """For each state its rows with the operations whose visits are at most so many."""
    return moves_by(spread.kind, {operation: True for operation in visiting_at_most(spread, most)})


def noted_at(spread, notes):
    """The operations with so many notes, ascending."""
    return [row[:2] for row in spread.rows if row[3] == notes]


def least_missed(spread):
    """The parts of the least Missed of a spread, None if there is none."""
    found = []
    for up in range(spread.sites + 1):
        moves = moves_up_to(spread, up)
        lengths = lengths_apart(spread.kind, moves)
        for operation in noted_at(spread, spread.sites - up):
            notice = least_notice(spread.kind, moves, lengths, operation)
            if notice is not None:
                found.append((notice[0], (notice[1], operation, notice[2])))
    return min(found)[1] if found else None


def missed_pairs(spread, up):
    """The pairs of the operations whose notes and up are the sites, and those to which who may miss them leads."""
    steps = [step for operation in noted_at(spread, spread.sites - up) for step in steps_of(spread.kind, operation)]
    return carried(spread.kind, moves_up_to(spread, up), steps)


def is_right(spread):
    """Whether a spread is right."""
    need_spread(spread)
    couples = unmeeting(spread)
    jar = least_jar(spread.kind, couples)
    if jar is not None:
        return Unmet(jar[0], jar[1], jar[2], jar[3])
    missed = least_missed(spread)
    if missed is not None:
        return Missed(missed[0], missed[1], missed[2])
    pairs = carried_crossings(spread.kind, couples)
    return Right(sorted(ways(spread.kind)), pairs, [missed_pairs(spread, up) for up in range(spread.sites + 1)])
