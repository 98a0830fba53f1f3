"""The met states of a thing, numbered as they are met."""

from fewvisits.kinds import MOST_STATES
from fewvisits.things import answers_at


class Met:
    """States of a thing by their numbers, and what is known of them.

    Ways are the operations by which each was met; rows tell of each state what is given there, as tuples
    (ask, answer, number of the next state) of words and a number. Silent is None, or the operations that lead to a
    state, and the word of the first ask that gets no answer there; is_over tells that there are too many states.
    With either of these the rest is not whole.
    """

    def __init__(self, first):
        self.states = [first]
        self.ways = [()]
        self.rows = []
        self.silent = None
        self.is_over = False
        self._numbers = {first: 0}

    def number_of(self, state, place, operation):
        """The number of a state to which an operation leads from the one with the number place."""
        if state not in self._numbers:
            self._numbers[state] = len(self.states)
            self.states.append(state)
            self.ways.append(self.ways[place] + (operation,))
            self.is_over = len(self.states) > MOST_STATES
        return self._numbers[state]


def look_at(met, thing, place):
    """Looks at what is given at the state with this number, which is met, and numbers the next states."""
    given = [answers_at(thing, met.states[place], ask) for ask in range(len(thing.asks))]
    if () in given:
        met.silent = (met.ways[place], thing.asks[given.index(())])
        return
    row = []
    for ask, pairs in zip(thing.asks, given):
        for answer, state in pairs:
            row.append((ask, answer, met.number_of(state, place, (ask, answer))))
            if met.is_over:
                return
    met.rows.append(row)


def met_of(thing):
    """All that is met of a thing, or as much as shows that it is silent or has too many met states."""
    met = Met(thing.first)
    place = 0
    while place < len(met.states) and met.silent is None and not met.is_over:
        look_at(met, thing, place)
        place = place + 1
    return met
