"""What things make: their kinds, what is always so of them, and whether two are the same."""

from fewvisits.errors import Impossible, TooMany
from fewvisits.kinds import MOST_ANSWERS, MOST_ROWS, MOST_STATES, Kind, need_kind
from fewvisits.mets import met_of
from fewvisits.papers import Denial, Paper, fixed
from fewvisits.things import Thing, condition_of, is_so_at, need_thing


class Made(Paper):
    """The made kind, and the state of the thing for each of its states."""

    def __init__(self, kind, states):
        self.word = "made"
        self.parts = fixed((kind, states))
        self.kind, self.states = self.parts


class Silent(Denial):
    """At the state to which these operations lead this ask gets no answer."""

    def __init__(self, operations, ask):
        self.word = "silent"
        self.parts = fixed((operations, ask))
        self.operations, self.ask = self.parts


class Always(Paper):
    """At these states, all met ones among them, the condition is so."""

    def __init__(self, states):
        self.word = "always"
        self.parts = fixed((states,))
        self.states = self.parts[0]


class Sometimes(Denial):
    """At the state to which these operations lead the condition is not so."""

    def __init__(self, operations):
        self.word = "sometimes"
        self.parts = fixed((operations,))
        self.operations = self.parts[0]


class Same(Paper):
    """At the states of each of these pairs both things can play the same."""

    def __init__(self, pairs):
        self.word = "same"
        self.parts = fixed((pairs,))
        self.pairs = self.parts[0]


class Unlike(Denial):
    """These operations can be played with the thing of this number alone."""

    def __init__(self, operations, number):
        self.word = "unlike"
        self.parts = fixed((operations, number))
        self.operations, self.number = self.parts


def need_few_states(met):
    """Raises TooMany for what has too many met states."""
    if met.is_over:
        raise TooMany("states", MOST_STATES)


def whole_met(thing):
    """What is met of a thing; Impossible if it is silent, TooMany if there are too many states."""
    met = met_of(thing)
    if met.silent is not None:
        raise Impossible(Silent(met.silent[0], met.silent[1]))
    need_few_states(met)
    return met


def kind_of(thing, met):
    """The made kind of a thing, by all that is met."""
    words = sorted(list({answer: True for row in met.rows for _, answer, _ in row}))
    if len(words) > MOST_ANSWERS:
        raise TooMany("answers", MOST_ANSWERS)
    asks = list(thing.asks)
    rows = sorted([(state, asks.index(ask), words.index(answer), behind)
                   for state, row in enumerate(met.rows) for ask, answer, behind in row])
    if len(rows) > MOST_ROWS:
        raise TooMany("rows", MOST_ROWS)
    return Kind(asks, words, len(met.states), 0, rows)


def made(thing):
    """The made kind and the met states, or where the thing is silent."""
    need_thing(thing, "thing")
    met = met_of(thing)
    if met.silent is not None:
        return Silent(met.silent[0], met.silent[1])
    need_few_states(met)
    return Made(kind_of(thing, met), met.states)


def always(thing, condition):
    """Whether a condition, told by its text, is so at all met states."""
    need_thing(thing, "thing")
    phrase = condition_of(thing, condition)
    met = whole_met(thing)
    for state, way in zip(met.states, met.ways):
        if not is_so_at(phrase, state):
            return Sometimes(way)
    return Always(met.states)


def leads_of_row(row):
    """For each operation of a row of what is met the number of the next state."""
    return {(ask, answer): behind for ask, answer, behind in row}


def same(one, other):
    """Whether of two things each plays just what the other one plays."""
    need_thing(one, "one")
    need_thing(other, "other")
    leads = [[leads_of_row(row) for row in whole_met(thing).rows] for thing in (one, other)]
    ways = {(0, 0): ()}
    queue = [(0, 0)]
    place = 0
    while place < len(queue):
        pair = queue[place]
        place = place + 1
        here, there = leads[0][pair[0]], leads[1][pair[1]]
        for operation in sorted(list(here) + [move for move in there if move not in here]):
            way = ways[pair] + (operation,)
            if operation not in here or operation not in there:
                return Unlike(way, 0 if operation in here else 1)
            behind = (here[operation], there[operation])
            if behind not in ways:
                ways[behind] = way
                queue.append(behind)
    return Same(sorted(queue))


def part_told(kind, ask):
    """The part of an ask of a kind, as of a thing that keeps the number of the state."""
    cases = [f" : may = at {state} answer {kind.answers[answer]} set at {behind}"
             for state, other, answer, behind in kind.rows if other == ask]
    return f" / ask {kind.asks[ask]}" + "".join(cases)


def told(kind):
    """A kind as a thing."""
    need_kind(kind)
    parts = [part_told(kind, ask) for ask in range(len(kind.asks))]
    return Thing(f"number at 0 {kind.states - 1} {kind.first}" + "".join(parts))
