"""Programs: things at their sites, hands with their deals, and who may wait for whom."""

from fewvisits.checks import is_list, is_lot, is_within
from fewvisits.errors import BadProgram
from fewvisits.letters import MOST_PLACES
from fewvisits.papers import fixed
from fewvisits.patience import need_pairs
from fewvisits.spreads import Spread

MOST_OF_THINGS = 4
MOST_HANDS = 8
MOST_OF_DEALS = 8
MOST_STEPS = 12


def is_placed(value):
    """Whether it is a pair of a spread and a lot of as many sites as it has."""
    if not is_list(value) or len(value) != 2 or not isinstance(value[0], Spread):
        return False
    return is_lot(value[1], MOST_PLACES) and len(value[1]) == value[0].sites


def are_things(value):
    """Whether it is a list of one to four things, no site being of two of them."""
    if not is_list(value) or not 1 <= len(value) <= MOST_OF_THINGS or not all([is_placed(item) for item in value]):
        return False
    sites = [site for item in value for site in item[1]]
    return len({site: True for site in sites}) == len(sites)


def is_program_step(things, value):
    """Whether it is a pair (thing, ask) of the numbers of one of these things, and of an ask of its kind."""
    if not is_list(value) or len(value) != 2 or not is_within(value[0], 0, len(things) - 1):
        return False
    return is_within(value[1], 0, len(things[value[0]][0].kind.asks) - 1)


def is_deal(things, value):
    """Whether it is a list of 1 to 12 steps at these things."""
    if not is_list(value) or not 1 <= len(value) <= MOST_STEPS:
        return False
    return all([is_program_step(things, item) for item in value])


def are_hands(things, value):
    """Whether it is a list of one to eight lists of deals at these things, eight deals in all at most."""
    if not is_list(value) or not 1 <= len(value) <= MOST_HANDS or not all([is_list(deals) for deals in value]):
        return False
    if sum([len(deals) for deals in value]) > MOST_OF_DEALS:
        return False
    return all([is_deal(things, deal) for deals in value for deal in deals])


class Program:
    """Things, each a spread and its sites; hands, each a list of deals; pairs (waiter, holder) of deals."""

    def __init__(self, things, hands, pairs=()):
        if not are_things(things):
            raise BadProgram("things")
        if not are_hands(things, hands):
            raise BadProgram("hands")
        need_pairs(pairs)
        self.things = fixed(things)
        self.hands = fixed(hands)
        self.pairs = tuple(sorted(fixed(pairs)))
        self.deals = tuple([deal for deals in self.hands for deal in deals])
        self.owners = tuple([hand for hand, deals in enumerate(self.hands) for _ in deals])

    def __eq__(self, other):
        if not isinstance(other, Program):
            return False
        return self.things == other.things and self.hands == other.hands and self.pairs == other.pairs
