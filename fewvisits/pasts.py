"""The records of a spread log as far as they came, and what a further do must see, and may be."""

from fewvisits.checks import is_integer, is_list, is_lot, is_within
from fewvisits.courses import MOST_DEALS, MOST_EVENTS, Course
from fewvisits.plays import lead
from fewvisits.spreads import numbers_of

DO_LENGTH = 8


class Do:
    """What one deal did at one moment: an operation, its date, and the sites and the dos that it tells of."""

    def __init__(self, record):
        self.deal = record[1]
        self.operation = record[2:4]
        self.date = record[4]
        self.visited = record[5]
        self.noted = record[6]
        self.seen = record[7]


def is_do(spread, value):
    """Whether it is a tuple of the form of a do of a spread; what it sees is not looked at."""
    if not isinstance(value, tuple) or len(value) != DO_LENGTH or not isinstance(value[0], str) or value[0] != "do":
        return False
    deal, ask, answer, date, visited, noted = value[1:7]
    if not is_within(deal, 0, MOST_DEALS - 1) or not is_integer(ask) or not is_integer(answer):
        return False
    if numbers_of(spread, (ask, answer)) is None or not is_within(date, 0, None):
        return False
    if not is_lot(visited, spread.sites) or len(visited) == 0 or not is_lot(noted, spread.sites):
        return False
    return all([site in visited for site in noted])


def is_ending(value):
    """Whether it is a tuple of the form of a ready, a yes or a no."""
    if not isinstance(value, tuple) or len(value) != 2 or not isinstance(value[0], str):
        return False
    return value[0] in ("ready", "yes", "no") and is_within(value[1], 0, MOST_DEALS - 1)


class Past:
    """The records that came."""

    def __init__(self, spread):
        self.spread = spread
        self.courses = [Course() for _ in range(MOST_DEALS)]
        self.dos = [[] for _ in range(MOST_DEALS)]
        self.length = 0

    def can_see(self, seen):
        """Whether any value can stand as what a do that comes now sees."""
        if not is_list(seen) or not all([is_list(pair) and len(pair) == 2 for pair in seen]):
            return False
        others = [pair[0] for pair in seen]
        if not is_lot(others, MOST_DEALS) or not all([self.courses[other].has_yes() for other in others]):
            return False
        return all([is_within(many, 1, len(self.dos[other])) for other, many in seen])

    def can_come(self, record):
        """Whether any value is a record that can come now."""
        if is_ending(record):
            return self.length < MOST_EVENTS and self.courses[record[1]].can_stand(record[0])
        if not is_do(self.spread, record) or self.length + 2 > MOST_EVENTS:
            return False
        return self.courses[record[1]].can_stand("ask") and self.can_see(record[7])

    def put(self, record):
        """Lets a record come, which can."""
        # A do is an ask and its answer at once: what may come behind it is what might come ahead of it.
        if record[0] == "do":
            self.dos[record[1]].append(Do(record))
            self.length = self.length + 2
        else:
            self.courses[record[1]].put(record, self.length)
            self.length = self.length + 1

    def is_new(self, deal):
        """Whether a deal has no ready, no yes and no no."""
        return self.courses[deal].can_stand("ask")

    def ended_deals(self):
        """The deals that have a yes, ascending."""
        return [deal for deal in range(MOST_DEALS) if self.courses[deal].has_yes()]

    def dos_seen(self, seen):
        """The dos that pairs (other, many) tell of."""
        return [do for other, many in seen for do in self.dos[other][:many]]


def touch(one, other):
    """Whether two lots of sites have one in common."""
    return any([site in other for site in one])


def grow(seen, pairs):
    """Puts pairs (other, many) into a dict, where they are more than it has; whether any is."""
    grown = False
    for other, many in pairs:
        if many > seen.get(other, 0):
            seen[other] = many
            grown = True
    return grown


def pairs_of(seen):
    """What a dict tells to be seen, as pairs, ascending."""
    return tuple(sorted(list(seen.items())))


def enough_seen(past, deal, visited, seen):
    """What a do of a deal that visits these sites, and sees so much, must see to see enough; pairs, ascending."""
    found = {}
    grow(found, seen)
    for other in past.ended_deals():
        grow(found, [(other, place + 1) for place, do in enumerate(past.dos[other]) if touch(do.noted, visited)])
    for do in past.dos[deal]:
        grow(found, do.seen)
    grown = True
    while grown:
        # What is seen may see more, which may see more again.
        grown = grow(found, [pair for do in past.dos_seen(pairs_of(found)) for pair in do.seen])
    return pairs_of(found)


def view(past, deal, seen):
    """The state to which what a do of a deal sees leads, and then what the deal did; None if it cannot be played."""
    dos = past.dos_seen(seen)
    told = sorted([(do.date, do.deal, place) for place, do in enumerate(dos)])
    moves = [dos[place].operation for _, _, place in told] + [do.operation for do in past.dos[deal]]
    return lead(past.spread.kind, past.spread.kind.first, moves)


def least_date(past, deal, visited, seen):
    """The least date that a do of a deal that visits these sites, and sees so much, may have."""
    dos = past.dos_seen(seen) + past.dos[deal]
    for other in range(MOST_DEALS):
        if not past.courses[other].called_off:
            dos = dos + [do for do in past.dos[other] if touch(do.visited, visited)]
    return max([-1] + [do.date for do in dos]) + 1


def is_barred(past, do, table):
    """Whether another deal holds a do that meets this one, and does not go beside it; table tells which do not."""
    for deal in range(MOST_DEALS):
        if deal != do.deal and past.courses[deal].is_open():
            held = [other for other in past.dos[deal] if touch(other.visited, do.visited)]
            if any([(do.operation, other.operation) in table for other in held]):
                return True
    return False


def fault(past, do, table):
    """The word of the first condition that does not hold for a do that comes now, None if it may be given."""
    visits, notes = numbers_of(past.spread, do.operation)
    if enough_seen(past, do.deal, do.visited, do.seen) != do.seen:
        return "seen"
    if len(do.visited) < visits or len(do.noted) < notes:
        return "few"
    if is_barred(past, do, table):
        return "barred"
    if do.date < least_date(past, do.deal, do.visited, do.seen):
        return "date"
    state = view(past, do.deal, do.seen)
    if state is None or lead(past.spread.kind, state, [do.operation]) is None:
        return "view"
    return None
