"""Spread logs: what deals did at the sites of a thing, and what may be given them."""

from fewvisits.besides import beside_table
from fewvisits.checks import is_list, is_lot, is_within, need_number
from fewvisits.courses import MOST_DEALS, MOST_EVENTS
from fewvisits.errors import BadLog, BadLot, BadNumber, TooMany
from fewvisits.histories import History
from fewvisits.papers import fixed
from fewvisits.pasts import Do, Past, enough_seen, fault, least_date, view
from fewvisits.spreads import need_spread, numbers_of


def past_of(spread, log):
    """The records of a log as they came; an error for no spread, or for no spread log of it."""
    need_spread(spread)
    if not is_list(log):
        raise BadLog("log")
    past = Past(spread)
    for record in fixed(log):
        if not past.can_come(record):
            raise BadLog("log")
        past.put(record)
    return past


def need_new_deal(past, deal):
    """Raises BadNumber for what is no deal without a ready, a yes and a no."""
    if not is_within(deal, 0, MOST_DEALS - 1) or not past.is_new(deal):
        raise BadNumber("deal")


def need_visited(past, visited):
    """Raises BadLot for no lot of sites, one at least."""
    if not is_lot(visited, past.spread.sites) or len(visited) == 0:
        raise BadLot("visited")


def table_of(spread):
    """The pairs of operations that do not go beside one another, as the keys of a dict."""
    return {pair: True for pair in beside_table(spread.kind)}


def plain_log(spread, log):
    """The plain log of a spread log."""
    past_of(spread, log)
    return tuple([record[:4] for record in fixed(log)])


def history_of(spread, log):
    """The history of a spread log."""
    events = []
    for record in plain_log(spread, log):
        if record[0] == "do":
            events.append(("ask", record[1], record[2]))
            events.append(("answer", record[1], record[3]))
        else:
            events.append(record)
    return History(spread.kind, events)


def sight(spread, log, deal, visited):
    """What a do of this deal that visits these sites must see at least, behind the log, to see enough."""
    past = past_of(spread, log)
    need_new_deal(past, deal)
    need_visited(past, visited)
    return enough_seen(past, deal, fixed(visited), ())


def view_of(spread, log, deal, seen):
    """The view of a do of this deal that sees seen, behind the log; None if there is none."""
    past = past_of(spread, log)
    need_new_deal(past, deal)
    if not past.can_see(seen):
        raise BadLot("seen")
    return view(past, deal, fixed(seen))


def fault_of(spread, log, record):
    """The word of the first condition that does not hold for a do behind the log, None if it may be given."""
    past = past_of(spread, log)
    told = fixed(record)
    if not past.can_come(told) or told[0] != "do":
        raise BadLog("record")
    return fault(past, Do(told), table_of(spread))


def first_stray(spread, log):
    """The index of the first do that may not be given behind the records ahead of it, None if all may."""
    past_of(spread, log)
    table = table_of(spread)
    past = Past(spread)
    for place, record in enumerate(fixed(log)):
        if record[0] == "do" and fault(past, Do(record), table) is not None:
            return place
        past.put(record)
    return None


def do_for(spread, log, deal, ask, visited):
    """The do of this deal that visits just these sites, with the least answer that may be given; None without any."""
    past = past_of(spread, log)
    need_new_deal(past, deal)
    need_number(ask, len(spread.kind.asks), "ask")
    need_visited(past, visited)
    if past.length > MOST_EVENTS - 2:
        raise TooMany("events", MOST_EVENTS)
    sites = fixed(visited)
    seen = enough_seen(past, deal, sites, ())
    date = least_date(past, deal, sites, seen)
    table = table_of(spread)
    for answer in range(len(spread.kind.answers)):
        numbers = numbers_of(spread, (ask, answer))
        if numbers is not None:
            record = ("do", fixed(deal), fixed(ask), answer, date, sites, sites[:numbers[1]], seen)
            if fault(past, Do(record), table) is None:
                return record
    return None
