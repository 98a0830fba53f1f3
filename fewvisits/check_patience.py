"""Checking papers on who may wait for whom."""

from fewvisits.checks import is_just, is_within
from fewvisits.patience import Eased, OneWay, Round, deals_in, ends_of, going_back, holders_of, need_pairs, sizes_of
from fewvisits.searches import is_order


def is_ring(pairs, value):
    """Whether it is a tuple of two or more unlike deals, each one and the next, the last and the first a pair."""
    if not isinstance(value, tuple) or len(value) < 2 or not all([is_within(deal, 0, None) for deal in value]):
        return False
    if len({deal: True for deal in value}) != len(value):
        return False
    told = {tuple(pair): True for pair in pairs}
    return all([pair in told for pair in zip(value, value[1:] + value[:1])])


def shows_one_way(pairs, value):
    """Whether a value is a right paper on whether pairs have no ring."""
    need_pairs(pairs)
    if isinstance(value, OneWay):
        return is_order(value.order, deals_in(pairs)) and going_back(pairs, value.order) == ()
    return isinstance(value, Round) and is_ring(pairs, value.deals)


def are_floors(pairs, value):
    """Whether it is a tuple of numbers for all lots of the deals of pairs that tell how many pairs go back at least."""
    deals = deals_in(pairs)
    if not isinstance(value, tuple) or len(value) != 1 << len(deals):
        return False
    if not all([is_within(floor, 0, None) for floor in value]) or value[0] != 0:
        return False
    holders = holders_of(pairs, deals)
    sizes = sizes_of(len(deals))
    return all([value[lot] <= min(ends_of(lot, holders, sizes, value))[0] for lot in range(1, len(value))])


def shows_eased(pairs, value):
    """Whether a value is a right paper on the fewest pairs that go back."""
    need_pairs(pairs)
    if not isinstance(value, Eased) or not is_order(value.order, deals_in(pairs)):
        return False
    if not is_just(value.out, going_back(pairs, value.order)) or not are_floors(pairs, value.floors):
        return False
    return value.floors[-1] == len(value.out)
