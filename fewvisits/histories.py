"""Histories: the events of one thing."""

from fewvisits.checks import is_list, need_number
from fewvisits.courses import MOST_DEALS, Course, courses_of
from fewvisits.errors import BadEvents, BadValue
from fewvisits.kinds import need_kind
from fewvisits.papers import fixed


class History:
    """The events of one thing of a kind, in the order in which they came."""

    def __init__(self, kind, events):
        need_kind(kind)
        if not is_list(events):
            raise BadEvents(0)
        self.kind = kind
        self.events = fixed(events)
        self._courses = courses_of(kind, self.events)
        self.deals = tuple(sorted(list(self._courses)))
        self.ended = tuple([deal for deal in self.deals if self._courses[deal].has_yes()])
        self.opened = tuple([deal for deal in self.deals if self._courses[deal].is_open()])
        self.readied = tuple([deal for deal in self.opened if self._courses[deal].has_ready()])

    def __eq__(self, other):
        if not isinstance(other, History):
            return False
        return self.kind == other.kind and self.events == other.events


def need_history(history):
    """Raises BadValue for no history."""
    if not isinstance(history, History):
        raise BadValue("history")


def course_of(history, deal):
    """The course of a deal; of one that does not occur, one without events."""
    need_history(history)
    need_number(deal, MOST_DEALS, "deal")
    return history._courses.get(deal, Course())


def operations(history, deal):
    """The operations of a deal, in order."""
    return course_of(history, deal).operations


def waiting(history, deal):
    """The ask of a deal that is not yet answered, None if there is none or the deal is called off."""
    course = course_of(history, deal)
    return course.unanswered if course.is_waiting() else None


def seen_of(history):
    """All pairs (one, other) of ended deals such that other was answered, or ready, behind the yes of one."""
    need_history(history)
    courses = history._courses
    # Of an ended deal the ready stands behind all answers, so it alone tells.
    return tuple([(one, other) for one in history.ended for other in history.ended
                  if one != other and courses[other].ready_place > courses[one].yes_place])
