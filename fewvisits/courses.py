"""Events of deals at one thing, and what they come to."""

from fewvisits.checks import is_within
from fewvisits.errors import BadEvents

MOST_DEALS = 12
MOST_EVENTS = 240


def is_event(kind, value):
    """Whether it is a tuple of the form of an event at a thing of this kind."""
    if not isinstance(value, tuple) or len(value) < 2 or not isinstance(value[0], str):
        return False
    if not is_within(value[1], 0, MOST_DEALS - 1):
        return False
    if value[0] == "ask":
        return len(value) == 3 and is_within(value[2], 0, len(kind.asks) - 1)
    if value[0] == "answer":
        return len(value) == 3 and is_within(value[2], 0, len(kind.answers) - 1)
    return len(value) == 2 and value[0] in ("ready", "yes", "no")


class Course:
    """What one deal did at one thing, as far as its events came."""

    def __init__(self):
        self.operations = ()
        self.unanswered = None
        self.ready_place = None
        self.yes_place = None
        self.called_off = False

    def has_yes(self):
        """Whether the deal has a yes here."""
        return self.yes_place is not None

    def is_open(self):
        """Whether the deal has neither a yes nor a no here."""
        return not self.called_off and not self.has_yes()

    def has_ready(self):
        """Whether the deal has a ready here."""
        return self.ready_place is not None

    def is_waiting(self):
        """Whether the deal has an ask here that is not yet answered, and is not called off."""
        return self.unanswered is not None and not self.called_off

    def can_stand(self, word):
        """Whether an event of this word can stand behind those that came."""
        if word == "answer":
            return self.is_waiting()
        if word == "yes":
            return self.is_open() and self.has_ready()
        if word == "no":
            return self.is_open()
        return self.is_open() and not self.has_ready() and not self.is_waiting()

    def put(self, event, place):
        """Puts an event, which is the one with this index, behind those that came."""
        word = event[0]
        if word == "ask":
            self.unanswered = event[2]
        elif word == "answer":
            self.operations = self.operations + ((self.unanswered, event[2]),)
            self.unanswered = None
        elif word == "ready":
            self.ready_place = place
        elif word == "yes":
            self.yes_place = place
        else:
            self.called_off = True


def courses_of(kind, events):
    """For each deal that occurs its course; BadEvents at the first event that cannot stand."""
    found = {}
    for place, event in enumerate(events):
        if place == MOST_EVENTS or not is_event(kind, event):
            raise BadEvents(place)
        course = found.setdefault(event[1], Course())
        if not course.can_stand(event[0]):
            raise BadEvents(place)
        course.put(event, place)
    return found
