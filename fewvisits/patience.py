"""Which deals may wait for which others: pairs (waiter, holder), rings of them, and orders that have them."""

from fewvisits.checks import is_list, is_within, need_within
from fewvisits.errors import BadPairs, BadValue, Impossible
from fewvisits.papers import Denial, Paper, fixed

MOST_WAITING = 8


class OneWay(Paper):
    """This order of the deals that stand in the pairs has all pairs."""

    def __init__(self, order):
        self.word = "oneway"
        self.parts = fixed((order,))
        self.order = self.parts[0]


class Round(Denial):
    """These deals are a ring of the pairs."""

    def __init__(self, deals):
        self.word = "round"
        self.parts = fixed((deals,))
        self.deals = self.parts[0]


class Eased(Paper):
    """In this order just the pairs of out go back; floors show that in no order fewer do."""

    def __init__(self, order, out, floors):
        self.word = "eased"
        self.parts = fixed((order, out, floors))
        self.order, self.out, self.floors = self.parts


def is_pair(value):
    """Whether it is a pair of two unlike deals."""
    if not is_list(value) or len(value) != 2 or not all([is_within(deal, 0, MOST_WAITING - 1) for deal in value]):
        return False
    return value[0] != value[1]


def need_pairs(pairs):
    """Raises BadPairs for no list of unlike pairs of two unlike deals."""
    if not is_list(pairs) or not all([is_pair(pair) for pair in pairs]):
        raise BadPairs("pairs")
    if len({tuple(pair): True for pair in pairs}) != len(pairs):
        raise BadPairs("pairs")


def deals_in(pairs):
    """The deals that stand in pairs, ascending."""
    found = {deal: True for pair in pairs for deal in pair}
    return sorted(list(found))


def first_order(pairs):
    """The first order of the deals that stand in pairs which has all pairs, None if there is none."""
    left = deals_in(pairs)
    order = []
    while left:
        ahead = [deal for deal in left if not any([pair[1] == deal and pair[0] in left for pair in pairs])]
        if not ahead:
            return None
        order.append(ahead[0])
        left.remove(ahead[0])
    return order


def shortest_ring(pairs):
    """The first of the shortest rings, each begun at its least deal; there is one."""
    told = {pair: True for pair in pairs}
    deals = deals_in(pairs)
    rows = [(deal,) for deal in deals]
    while True:
        rows = [row + (deal,) for row in rows for deal in deals
                if deal > row[0] and deal not in row and (row[-1], deal) in told]
        rings = [row for row in rows if (row[-1], row[0]) in told]
        if rings:
            return rings[0]


def goes_one_way(pairs):
    """Whether pairs have no ring."""
    need_pairs(pairs)
    order = first_order(pairs)
    return Round(shortest_ring(fixed(pairs))) if order is None else OneWay(order)


def depths(pairs):
    """For each deal that stands in pairs it and how many pairs a longest row has that begins with it as a waiter."""
    paper = goes_one_way(pairs)
    if not paper:
        raise Impossible(paper)
    found = {}
    # Each holder stands behind its waiters: so it comes first from the end on.
    for deal in paper.order[::-1]:
        found[deal] = max([0] + [found[pair[1]] + 1 for pair in pairs if pair[0] == deal])
    return tuple(sorted(list(found.items())))


def by_number(many, is_up):
    """All pairs of deals below many in which the waiter has the lesser number, or the greater one if not is_up."""
    need_within(many, 0, MOST_WAITING, "many")
    if not isinstance(is_up, bool):
        raise BadValue("is_up")
    return tuple([(waiter, holder) for waiter in range(many) for holder in range(many)
                  if waiter != holder and (waiter < holder) == is_up])


def going_back(pairs, order):
    """The pairs that go back in an order, ascending."""
    places = {deal: place for place, deal in enumerate(order)}
    return tuple(sorted([tuple(pair) for pair in pairs if places[pair[0]] > places[pair[1]]]))


def holders_of(pairs, deals):
    """For each of these deals the lot of its holders; a lot is the sum of 1 << k for the k-th one of the deals."""
    places = {deal: place for place, deal in enumerate(deals)}
    found = [0 for _ in deals]
    for waiter, holder in pairs:
        found[places[waiter]] = found[places[waiter]] + (1 << places[holder])
    return found


def sizes_of(many):
    """For each lot of so many deals how many it has."""
    found = [0]
    for _ in range(many):
        found = found + [size + 1 for size in found]
    return found


def ends_of(lot, holders, sizes, floors):
    """For each deal of a lot, by its place: how few pairs go back in orders of the lot that end with it, and it."""
    rests = [(lot - (1 << place), place) for place in range(len(holders)) if (lot >> place) & 1 == 1]
    return [(floors[rest] + sizes[rest & holders[place]], place) for rest, place in rests]


def eased(pairs):
    """An order in which the fewest pairs go back, these pairs, and numbers of lots that show it."""
    need_pairs(pairs)
    deals = deals_in(pairs)
    holders = holders_of(pairs, deals)
    sizes = sizes_of(len(deals))
    floors = [0]
    for lot in range(1, 1 << len(deals)):
        floors.append(min(ends_of(lot, holders, sizes, floors))[0])
    order = []
    lot = len(floors) - 1
    while lot > 0:
        place = min(ends_of(lot, holders, sizes, floors))[1]
        order.append(deals[place])
        lot = lot - (1 << place)
    order = order[::-1]
    return Eased(order, going_back(pairs, order), floors)
