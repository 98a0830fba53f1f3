"""The cases of an ask: what is answered on which condition, and the deeds that come of it."""

from fewvisits.checks import MOST_SIGNS
from fewvisits.phrases import Scope, condition_read, holds_so, place_read, value_read, worth

DEED_SHAPES = {"set": "number", "push": "line", "shift": "line", "pop": "line", "put": "lot", "drop": "lot"}
MOST_DEEDS = 8
MOST_PICK = 8


class Case:
    """What is looked at for an ask: a when, a may, or a pick of the numbers from low to high."""

    def __init__(self, word, picks, condition, answer, value, deeds):
        self.word = word
        self.picks = picks
        self.condition = condition
        self.answer = answer
        self.value = value
        self.deeds = deeds


def deed_read(reader, scope):
    """Reads a deed, whose word is there: a tuple of the word, the place of the field, and the value or None."""
    word = reader.skip()
    place = place_read(reader, scope, (DEED_SHAPES[word],))
    value = None if word in ("shift", "pop") else value_read(reader, scope, 1)
    return (word, place, value)


def deeds_read(reader, scope):
    """Reads all deeds of a case, up to what is none, or one too many."""
    deeds = []
    while reader.ahead() in DEED_SHAPES and len(deeds) < MOST_DEEDS:
        deeds.append(deed_read(reader, scope))
    return deeds


def case_read(reader, fields, has_it):
    """Reads a case of an ask, in which it may be named or not."""
    word = reader.ahead()
    if word not in ("when", "may", "pick"):
        reader.refuse()
    reader.skip()
    picks = [None]
    if word == "pick":
        low = reader.integer(0, MOST_PICK)
        picks = list(range(low, reader.integer(low, MOST_PICK) + 1))
    scope = Scope(fields, has_it, word == "pick")
    condition = condition_read(reader, scope, 1)
    reader.expect("answer")
    answer = reader.any_word()
    value = None
    if not reader.done() and reader.ahead() not in (":", "/") and reader.ahead() not in DEED_SHAPES:
        value = value_read(reader, scope, 1)
    return Case(word, picks, condition, answer, value, deeds_read(reader, scope))


def deed_done(deed, fields, state, it, one):
    """The state behind a deed, None if it fails or its value is not there."""
    word, place, value = deed
    held = state[place]
    if value is None:
        if not held:
            return None
        left = held[1:] if word == "shift" else held[:-1]
        return state[:place] + (left,) + state[place + 1:]
    told = worth(value, state, it, one)
    if told is None or not fields[place].takes(told) or (word == "push" and len(held) == fields[place].room):
        return None
    if word == "push":
        told = held + (told,)
    elif word != "set":
        others = [item for item in held if item != told]
        told = tuple(sorted(others + [told] if word == "put" else others))
    return state[:place] + (told,) + state[place + 1:]


def answer_of(case, state, it, one):
    """The word that a case answers in a state, None if its value is not there or the word cannot be."""
    if case.value is None:
        return case.answer
    told = worth(case.value, state, it, one)
    if told is None or told < 0:
        return None
    answer = f"{case.answer}{told}"
    return answer if len(answer) <= MOST_SIGNS else None


def outcome(case, fields, state, it, one):
    """The answer of a case and the next state, None if the case does not hold."""
    if not holds_so(case.condition, state, it, one):
        return None
    answer = answer_of(case, state, it, one)
    if answer is None:
        return None
    for deed in case.deeds:
        state = deed_done(deed, fields, state, it, one)
        if state is None:
            return None
    return (answer, state)


def outcomes(cases, fields, state, it):
    """The pairs (answer, next state) that these cases give in a state, each answer once, in order."""
    found = {}
    for case in cases:
        for one in case.picks:
            told = outcome(case, fields, state, it, one)
            if told is not None:
                found.setdefault(told[0], told[1])
                if case.word == "when":
                    return tuple(found.items())
    return tuple(found.items())
