"""Slow and plain ways of telling which spread logs stand, what their dos see and may be; only for tests."""

import random

from fewvisits.kinds import operations_of
from fewvisits.spreads import Spread
from tests.naive import leads_to
from tests.naive_deals import stands
from tests.naive_pairs import beside


def some_spread(seed, kind, sites=None):
    """Some spread of a kind."""
    dice = random.Random(seed)
    sites = sites or dice.randint(1, 5)
    rows = []
    for ask, answer in operations_of(kind):
        visits = dice.choice([1, sites, dice.randint(1, sites), dice.randint(1, sites)])
        rows.append((ask, answer, visits, dice.randint(0, visits)))
    return Spread(kind, sites, rows)


def numbers(spread, operation):
    """The visits and the notes of an operation."""
    return [row[2:] for row in spread.rows if row[:2] == operation][0]


def meets(spread, one, other):
    return numbers(spread, one)[0] + numbers(spread, other)[0] > spread.sites


def may_miss(spread, operation):
    """The operations that may miss one."""
    return [row[:2] for row in spread.rows if row[2] + numbers(spread, operation)[1] <= spread.sites]


def events_of(log):
    """The events of a log whose records are of right form."""
    found = []
    for record in log:
        if record[0] == "do":
            found += [("ask",) + record[1:3], ("answer", record[1], record[3])]
        else:
            found.append(record)
    return found


def is_lot(value, most):
    return all(type(site) is int and 0 <= site < most for site in value) and list(value) == sorted(set(value))


def has_form(spread, record):
    """Whether a tuple is of the form of a record, its deal and numbers being integers."""
    if record[0] != "do":
        return record[0] in ("ready", "yes", "no") and len(record) == 2 and 0 <= record[1] < 12
    if len(record) != 8 or not 0 <= record[1] < 12 or record[2:4] not in [row[:2] for row in spread.rows] or record[4] < 0:
        return False
    visited, noted = record[5:7]
    return is_lot(visited, spread.sites) and is_lot(noted, spread.sites) and bool(visited) and set(noted) <= set(visited)


def goes_on(spread, log, record):
    """Whether a record can stand behind a log."""
    if not has_form(spread, record):
        return False
    events = events_of(log)
    for event in events_of([record]):
        if len(events) >= 240 or not stands(events, event):
            return False
        events.append(event)
    if record[0] == "do":
        others = [other for other, _ in record[7]]
        if others != sorted(set(others)):
            return False
        for other, many in record[7]:
            if ("yes", other) not in log or not 1 <= many <= len(dos_of(log, other)):
                return False
    return True


def dos_of(log, deal):
    """The dos of a deal, in order."""
    return [record for record in log if record[0] == "do" and record[1] == deal]


def sees(log, seen):
    """The dos that seen tells of, as pairs of a deal and a place in it."""
    return {(other, place) for other, many in seen for place in range(many)}


def required(log, deal, visited, start):
    """All dos that a do must see, at least, if it sees those of start."""
    found = set(start)
    ended = [record[1] for record in log if record[0] == "yes"]
    for other in ended:
        for place, record in enumerate(dos_of(log, other)):
            if set(record[6]) & set(visited):
                found |= {(other, ahead) for ahead in range(place + 1)}
    for record in dos_of(log, deal):
        found |= sees(log, record[7])
    while True:
        more = set(found)
        for other, place in found:
            more |= sees(log, dos_of(log, other)[place][7])
        if more == found:
            return found
        found = more


def as_pairs(dos):
    """Dos seen, as pairs of a deal and how many."""
    return tuple((deal, max(place for other, place in dos if other == deal) + 1) for deal in sorted({deal for deal, _ in dos}))


def view(spread, log, deal, seen):
    """The view of a do, None if there is none."""
    told = [(dos_of(log, other)[place][4], other, place) for other, place in sees(log, seen)]
    moves = [dos_of(log, other)[place][2:4] for _, other, place in sorted(told)]
    moves += [record[2:4] for record in dos_of(log, deal)]
    return leads_to(spread.kind, spread.kind.first, moves)


def dates_ahead(log, record):
    """The dates that condition 4 names."""
    off = [past[1] for past in log if past[0] == "no"]
    found = [dos_of(log, other)[place][4] for other, place in sees(log, record[7])]
    for past in log:
        if past[0] == "do" and (past[1] == record[1] or past[1] not in off and set(past[5]) & set(record[5])):
            found.append(past[4])
    return found


def fault(spread, log, record):
    """The word of the first condition that does not hold."""
    _, deal, ask, answer, date, visited, noted, seen = record
    if required(log, deal, visited, sees(log, seen)) != sees(log, seen):
        return "seen"
    if len(visited) < numbers(spread, (ask, answer))[0] or len(noted) < numbers(spread, (ask, answer))[1]:
        return "few"
    done = [past[1] for past in log if past[0] in ("yes", "no")]
    for past in log:
        if past[0] == "do" and past[1] != deal and past[1] not in done and set(past[5]) & set(visited):
            if not beside(spread.kind, (ask, answer), past[2:4]):
                return "barred"
    if any(date <= other for other in dates_ahead(log, record)):
        return "date"
    state = view(spread, log, deal, seen)
    if state is None or leads_to(spread.kind, state, [(ask, answer)]) is None:
        return "view"
    return None


def some_lot(dice, most, least=0):
    many = dice.randint(least, most)
    return tuple(sorted(dice.sample(range(most), many)))


def some_do(dice, spread, log, deal):
    """Some do of a deal that goes on with a log, or nearly."""
    operation = dice.choice(operations_of(spread.kind))
    visited = some_lot(dice, spread.sites, 1) if dice.random() < 0.5 else tuple(range(spread.sites))
    noted = tuple(site for site in visited if dice.random() < 0.6)
    seen = as_pairs(required(log, deal, visited, set()))
    if dice.random() < 0.3:
        ended = sorted({record[1] for record in log if record[0] == "yes"})
        seen = tuple((other, dice.randint(1, len(dos_of(log, other)))) for other in ended
                     if dos_of(log, other) and dice.random() < 0.7)
    record = ("do", deal) + operation + (0, visited, noted, seen)
    top = max([-1] + dates_ahead(log, record))
    date = max(0, top + dice.choice([1, 1, 1, 1, 2, 0, -1]))
    return record[:4] + (date,) + record[5:]


def some_log(seed, spread, many, deals=(0, 2, 5, 11), good=False):
    """Some log; if good, one in which each do may be given."""
    dice = random.Random(seed)
    log = []
    for _ in range(many):
        deal = dice.choice(deals)
        word = dice.choice(["do", "do", "do", "ready", "yes", "yes", "no"] if dice.random() < 0.5 else ["do", "ready", "yes"])
        record = some_do(dice, spread, log, deal) if word == "do" else (word, deal)
        if goes_on(spread, log, record) and not (good and word == "do" and fault(spread, log, record)):
            log.append(record)
    return log
