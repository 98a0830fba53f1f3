"""Looking for an order of deals that fits at one thing or at several."""

from fewvisits.checks import is_integer, is_list
from fewvisits.errors import TooMany
from fewvisits.plays import lead

MOST_ENDED = 7


def need_few(deals):
    """Raises TooMany for more deals than all orders of which are looked at."""
    if len(deals) > MOST_ENDED:
        raise TooMany("deals", MOST_ENDED)


def is_order(value, deals):
    """Whether it is a list of all these deals, each once."""
    if not is_list(value) or not all([is_integer(deal) for deal in value]):
        return False
    return sorted(list(value)) == list(deals)


def leads_of(kind, moves):
    """For each state the one to which moves lead, None if they cannot be played from it."""
    return [lead(kind, state, moves) for state in range(kind.states)]


def step(lanes, states, deal):
    """The states of all lanes behind a deal, None where it cannot be played.

    A lane is a dict: for each deal at a thing what leads_of tells of its operations there.
    """
    return [lane[deal][state] if deal in lane else state for lane, state in zip(lanes, states)]


def least_order(lanes, states, taken, left, bars):
    """The least order that fits, of those that begin with taken, None if there is none.

    States are those that taken leaves; left are the other deals. Pairs of a shortest beginning that does not fit,
    and of the first lane at which it does not, are put into bars, ascending.
    """
    if not left:
        return taken
    for deal in left:
        behind = step(lanes, states, deal)
        if None in behind:
            bars.append((taken + (deal,), behind.index(None)))
            continue
        rest = [other for other in left if other != deal]
        found = least_order(lanes, behind, taken + (deal,), rest, bars)
        if found is not None:
            return found
    return None
