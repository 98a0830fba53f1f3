"""Weaves: the events of several things, in the order in which they came."""

from fewvisits.checks import is_list, is_within, need_number
from fewvisits.courses import MOST_EVENTS, Course, is_event
from fewvisits.errors import BadEvents, BadKind, BadOrder, BadValue, TooMany
from fewvisits.histories import History
from fewvisits.kinds import Kind
from fewvisits.orders import Bars, Fits
from fewvisits.papers import fixed
from fewvisits.searches import is_order, least_order, leads_of, need_few, step

MOST_THINGS = 4


def at_thing(event):
    """An event of a weave as one at its thing."""
    return event[:1] + event[2:]


def is_weave_event(kinds, value):
    """Whether it is a tuple of the form of an event at one of the things."""
    if not isinstance(value, tuple) or len(value) < 3 or not is_within(value[1], 0, len(kinds) - 1):
        return False
    return is_event(kinds[value[1]], at_thing(value))


def can_stand_beside(word, courses):
    """Whether an event of this word can stand behind the courses of its deal at all things."""
    ended = any([course.has_yes() for course in courses])
    if word == "yes":
        answered = [course for course in courses if course.operations]
        return all([course.has_ready() for course in answered]) and not any([course.called_off for course in courses])
    if word == "no":
        return not ended
    if word == "ready":
        return not ended and not any([course.is_waiting() for course in courses])
    if any([course.has_ready() for course in courses]):
        return False
    return word == "answer" or not any([course.is_waiting() for course in courses])


def woven(kinds, events):
    """For each thing, and for each deal that occurs there, its course; BadEvents at the first that cannot stand."""
    found = [{} for _ in kinds]
    counts = [0 for _ in kinds]
    for place, event in enumerate(events):
        if not is_weave_event(kinds, event) or counts[event[1]] == MOST_EVENTS:
            raise BadEvents(place)
        word, thing, deal = event[:3]
        course = found[thing].setdefault(deal, Course())
        beside = [courses[deal] for courses in found if deal in courses]
        if not course.can_stand(word) or not can_stand_beside(word, beside):
            raise BadEvents(place)
        course.put(at_thing(event), place)
        counts[thing] = counts[thing] + 1
    return found


class Weave:
    """Events of one to four things of these kinds; each has the number of its thing behind the word."""

    def __init__(self, kinds, events):
        if not is_list(kinds) or not 1 <= len(kinds) <= MOST_THINGS:
            raise BadKind("kinds")
        if not all([isinstance(kind, Kind) for kind in kinds]):
            raise BadKind("kinds")
        if not is_list(events):
            raise BadEvents(0)
        self.kinds = fixed(kinds)
        self.events = fixed(events)
        self._courses = woven(self.kinds, self.events)
        occurring = {deal: True for courses in self._courses for deal in courses}
        ended = {deal: True for courses in self._courses for deal in courses if courses[deal].has_yes()}
        self.deals = tuple(sorted(list(occurring)))
        self.ended = tuple(sorted(list(ended)))

    def __eq__(self, other):
        if not isinstance(other, Weave):
            return False
        return self.kinds == other.kinds and self.events == other.events


def need_weave(weave):
    """Raises BadValue for no weave."""
    if not isinstance(weave, Weave):
        raise BadValue("weave")


def at(weave, thing):
    """The history of the events at a thing, and behind them a yes for each deal that has one only elsewhere."""
    need_weave(weave)
    need_number(thing, len(weave.kinds), "thing")
    events = [at_thing(event) for event in weave.events if event[1] == thing]
    courses = weave._courses[thing]
    for deal in weave.ended:
        if deal in courses and not courses[deal].has_yes():
            events.append(("yes", deal))
    if len(events) > MOST_EVENTS:
        raise TooMany("events", MOST_EVENTS)
    return History(weave.kinds[thing], events)


def last_order(weave):
    """The ended deals by their last readies, at whatever thing."""
    need_weave(weave)
    last = []
    for deal in weave.ended:
        courses = [found[deal] for found in weave._courses if deal in found]
        last.append((max([course.ready_place for course in courses if course.has_ready()]), deal))
    return tuple([deal for _, deal in sorted(last)])


def lanes_of(weave):
    """For each thing, and for each ended deal that occurs there, what leads_of tells of its operations."""
    return [{deal: leads_of(kind, courses[deal].operations) for deal in weave.ended if deal in courses}
            for kind, courses in zip(weave.kinds, weave._courses)]


def firsts_of(weave):
    """The first states of all things."""
    return [kind.first for kind in weave.kinds]


def fits_all(weave, order):
    """Whether the order fits, however long the histories are."""
    need_weave(weave)
    if not is_order(order, weave.ended):
        raise BadOrder("order")
    lanes = lanes_of(weave)
    states = firsts_of(weave)
    for deal in order:
        states = step(lanes, states, deal)
        if None in states:
            return False
    return True


def order_of_all(weave):
    """The least order that fits, or the shortest beginnings of all orders that do not, each with its first thing."""
    need_weave(weave)
    need_few(weave.ended)
    bars = []
    found = least_order(lanes_of(weave), firsts_of(weave), (), weave.ended, bars)
    if found is None:
        return Bars(bars)
    return Fits(found)
