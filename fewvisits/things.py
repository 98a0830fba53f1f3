"""Things, typed as texts: what they keep, and how they answer."""

from fewvisits.cases import case_read, outcomes
from fewvisits.checks import MOST_SIGNS, is_list, need_number
from fewvisits.errors import BadText, BadValue
from fewvisits.fields import fields_read
from fewvisits.kinds import MOST_ASKS
from fewvisits.papers import fixed
from fewvisits.phrases import Scope, condition_read, holds_so
from fewvisits.texts import Reader

MOST_IT = 7


class Ask:
    """An ask of a thing: its word, the number in it, None without one, and its cases."""

    def __init__(self, word, it, cases):
        self.word = word
        self.it = it
        self.cases = cases


def cases_read(reader, fields, has_it):
    """Reads all cases of an ask, one or more."""
    reader.expect(":")
    cases = [case_read(reader, fields, has_it)]
    while reader.sees(":"):
        reader.skip()
        cases.append(case_read(reader, fields, has_it))
    return cases


def part_read(reader, fields):
    """Reads the part of an ask, or of several."""
    reader.expect("ask")
    word = reader.any_word()
    if reader.sees(":"):
        return [Ask(word, None, cases_read(reader, fields, False))]
    low = reader.integer(0, MOST_IT)
    high = reader.integer(low, MOST_IT)
    cases = cases_read(reader, fields, True)
    return [Ask(f"{word}{it}", it, cases) for it in range(low, high + 1)]


def asks_read(reader, fields):
    """Reads all asks, up to the end of the text."""
    asks = part_read(reader, fields)
    while not reader.done():
        reader.expect("/")
        asks = asks + part_read(reader, fields)
    words = {ask.word: True for ask in asks}
    if len(asks) > MOST_ASKS or len(words) < len(asks) or max([len(word) for word in words]) > MOST_SIGNS:
        raise BadText(reader.place - 1)
    return asks


def whole_condition_read(text, fields):
    """Reads a text that is a condition of these fields, in which neither it nor one can stand."""
    reader = Reader(text)
    condition = condition_read(reader, Scope(fields, False, False), 1)
    if not reader.done():
        reader.refuse()
    return condition


class Thing:
    """A thing: its fields, its asks and its first state."""

    def __init__(self, text):
        reader = Reader(text)
        self._fields = fields_read(reader)
        self._asks = asks_read(reader, self._fields)
        self._text = fixed(text)
        self.fields = tuple([field.name for field in self._fields])
        self.asks = tuple([ask.word for ask in self._asks])
        self.first = tuple([field.first for field in self._fields])

    def __eq__(self, other):
        if not isinstance(other, Thing):
            return False
        return self._text == other._text

    def __str__(self):
        return str(self._text)

    @staticmethod
    def read(text):
        """The thing whose text is just this one."""
        return Thing(text)

    def is_state(self, value):
        """Whether any value is a state of the thing."""
        if not is_list(value) or len(value) != len(self._fields):
            return False
        return all([field.can_keep(kept) for field, kept in zip(self._fields, value)])

    def given(self, state, ask):
        """The pairs (answer, next state) that the ask with this number gets in a state, in order."""
        if not self.is_state(state):
            raise BadValue("state")
        need_number(ask, len(self._asks), "ask")
        return answers_at(self, fixed(state), ask)

    def is_so(self, condition, state):
        """Whether a condition, told by its text, is so in a state."""
        told = whole_condition_read(condition, self._fields)
        if not self.is_state(state):
            raise BadValue("state")
        return is_so_at(told, fixed(state))


def need_thing(thing, part):
    """Raises BadValue with this part for no thing."""
    if not isinstance(thing, Thing):
        raise BadValue(part)


def answers_at(thing, state, ask):
    """What given returns; nothing is checked."""
    told = thing._asks[ask]
    return outcomes(told.cases, thing._fields, state, told.it)


def condition_of(thing, text):
    """A condition of the thing, read of its text."""
    return whole_condition_read(text, thing._fields)


def is_so_at(condition, state):
    """Whether a condition that was read is so in a state; not so if a value in it is not there."""
    return bool(holds_so(condition, state, None, None))
