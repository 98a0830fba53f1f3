"""Slow and plain ways of telling which events can stand, and which orders fit; only for tests."""

import itertools
import random

from tests.naive import leads_to


def of_deal(events, deal, *words):
    """The events of a deal at one thing, of these words or of all, in order."""
    return [event for event in events if event[1] == deal and (not words or event[0] in words)]


def unanswered(events, deal):
    """Whether a deal has an ask at one thing that is not yet answered."""
    return len(of_deal(events, deal, "ask")) > len(of_deal(events, deal, "answer"))


def stands(ahead, event):
    """Whether an event of the right form can stand behind others, at one thing."""
    word, deal = event[:2]
    ends = of_deal(ahead, deal, "yes", "no")
    if word == "ask":
        return not of_deal(ahead, deal, "ready", "yes", "no") and not unanswered(ahead, deal)
    if word == "answer":
        return unanswered(ahead, deal) and not of_deal(ahead, deal, "no")
    if word == "ready":
        return not of_deal(ahead, deal, "ready", "yes", "no") and not unanswered(ahead, deal)
    if word == "yes":
        return bool(of_deal(ahead, deal, "ready")) and not ends
    return not ends


def first_bad(events):
    """The index of the first event of right form that cannot stand in a history, None if all can."""
    for place, event in enumerate(events):
        if place == 240 or not stands(events[:place], event):
            return place
    return None


def there(events, thing):
    """The events of a weave at one thing, as they stand there."""
    return [event[:1] + event[2:] for event in events if event[1] == thing]


def weave_stands(things, ahead, event):
    """Whether an event of the right form can stand in a weave behind others."""
    word, thing, deal = event[:3]
    here = [there(ahead, number) for number in range(things)]
    if len(here[thing]) == 240 or not stands(here[thing], event[:1] + event[2:]):
        return False
    mine = [past[0] for past in ahead if past[2] == deal]
    if "ready" in mine and word in ("ask", "answer"):
        return False
    if "yes" in mine and word != "yes":
        return False
    if "no" in mine and word == "yes":
        return False
    open_asks = [k for k in range(things) if unanswered(here[k], deal) and not of_deal(here[k], deal, "no")]
    if word in ("ask", "ready") and open_asks:
        return False
    if word == "yes":
        for past in here:
            if of_deal(past, deal, "answer") and not of_deal(past, deal, "ready"):
                return False
    return True


def first_bad_woven(things, events):
    """The index of the first event of right form that cannot stand in a weave, None if all can."""
    for place, event in enumerate(events):
        if not weave_stands(things, events[:place], event):
            return place
    return None


def some_event(dice, kind, deals):
    """Some event of right form, whether or not it can stand."""
    word = dice.choice(["ask", "ask", "answer", "answer", "answer", "ready", "yes", "no"])
    deal = dice.choice(deals)
    if word == "ask":
        return (word, deal, dice.randrange(len(kind.asks)))
    if word == "answer":
        return (word, deal, dice.randrange(len(kind.answers)))
    return (word, deal)


def some_events(seed, kind, many, deals=(0, 3, 7, 11), noes=True):
    """A list of so many events at one thing that can stand."""
    dice = random.Random(seed)
    events = []
    for _ in range(2000):
        event = some_event(dice, kind, deals)
        if len(events) < many and stands(events, event) and (noes or event[0] != "no"):
            events.append(event)
    return events


def some_woven(seed, kinds, many, deals=(0, 3, 7), noes=True):
    """A list of so many events of a weave that can stand."""
    dice = random.Random(seed)
    events = []
    for _ in range(1500):
        thing = dice.randrange(len(kinds))
        event = some_event(dice, kinds[thing], deals)
        event = (event[0], thing) + event[1:]
        if len(events) < many and (noes or event[0] != "no") and weave_stands(len(kinds), events, event):
            events.append(event)
    return events


def done_by(events, deal):
    """The operations of a deal at one thing."""
    asks = [event[2] for event in of_deal(events, deal, "ask")]
    return list(zip(asks, [event[2] for event in of_deal(events, deal, "answer")]))


def ended_at(events):
    return sorted({event[1] for event in events if event[0] == "yes"})


def seen_at(events):
    """The pairs that are seen, as they are told of."""
    ended = ended_at(events)
    found = []
    for one in ended:
        for other in ended:
            behind = events[events.index(("yes", one)):]
            if one != other and of_deal(behind, other, "answer", "ready"):
                found.append((one, other))
    return found


def leaves(kind, events, order):
    """The state that some deals leave, deal behind deal, None if they cannot be played."""
    return leads_to(kind, kind.first, [move for deal in order for move in done_by(events, deal)])


def holds(seen, order):
    return all(order.index(one) < order.index(other) for one, other in seen if one in order and other in order)


def bars_of(orders, first_wrong):
    """The shortest beginnings that are wrong, each with what first_wrong tells of it; all orders have one."""
    found = set()
    for order in orders:
        many = [k for k in range(1, len(order) + 1) if first_wrong(order[:k]) is not None][0]
        found.add((order[:many], first_wrong(order[:many])))
    return sorted(found)


def orders_of(deals):
    return list(itertools.permutations(deals))
