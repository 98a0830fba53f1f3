"""Slow and plain ways to the same answers, and small kinds to ask about; only for tests."""

import random

from fewvisits.kinds import Kind


class OwnInt(int):
    """An integer of a class of its own."""


class OwnStr(str):
    """A string of a class of its own."""


class OwnList(list):
    """A list of a class of its own."""


class Odd:
    """A value that cannot be compared, hashed or measured."""

    __hash__ = None

    def __eq__(self, other):
        raise RuntimeError("compared")

    def __len__(self):
        raise RuntimeError("measured")

    def __bool__(self):
        raise RuntimeError("tested")


NO_INTEGERS = [True, False, None, 1.0, "1", b"1", [1], (1,), {1: 1}, {1}, Odd(), object(), int]
NO_LISTS = [None, True, 0, 1.5, "ab", b"ab", {0: 0}, {0}, range(2), Odd(), object(), list]


def plain(value):
    """Whether a value is of no class of its own, all the way in."""
    if type(value) is tuple:
        return all(plain(item) for item in value)
    return type(value) in (int, str, bool) or value is None


def random_kind(seed, states=None, asks=None, answers=None):
    """Some kind, perhaps with states that cannot be reached and alike ones."""
    dice = random.Random(seed)
    states = states or dice.randint(1, 6)
    asks = asks or dice.randint(1, 3)
    answers = answers or dice.randint(1, 3)
    rows = []
    for state in range(states):
        for ask in range(asks):
            for answer in sorted(dice.sample(range(answers), dice.choice([1, 1, 1, min(2, answers), answers]))):
                rows.append((state, ask, answer, dice.randrange(states)))
    return Kind([f"a{k}" for k in range(asks)], [f"r{k}" for k in range(answers)], states,
                dice.randrange(states), rows)


def leads_to(kind, state, moves):
    """The state to which moves lead, None if they cannot be played, by looking along the rows."""
    for ask, answer in moves:
        found = [row[3] for row in kind.rows if row[:3] == (state, ask, answer)]
        if not found:
            return None
        state = found[0]
    return state


def lists_played(kind, state, longest):
    """All lists of at most so many operations that can be played, shorter first, then ascending, each with its end."""
    level = [((), state)]
    found = list(level)
    for _ in range(longest):
        level = [(moves + ((ask, answer),), behind) for moves, here in level
                 for other, ask, answer, behind in kind.rows if other == here]
        level.sort()
        found += level
    return found


def all_able(kind):
    """All pairs (one, other) such that other can all that one can: the greatest such lot of pairs."""
    pairs = {(one, other) for one in range(kind.states) for other in range(kind.states)}
    nexts = {row[:3]: row[3] for row in kind.rows}
    while True:
        left = set()
        for one, other in pairs:
            rows = [row for row in kind.rows if row[0] == one]
            if all((nexts[row[:3]], nexts.get((other,) + row[1:3])) in pairs for row in rows):
                left.add((one, other))
        if left == pairs:
            return pairs
        pairs = left
