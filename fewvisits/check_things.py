"""Checking papers on what things make."""

from fewvisits.checks import is_within
from fewvisits.kinds import MOST_STATES, Kind
from fewvisits.mets import met_of
from fewvisits.plays import ways
from fewvisits.things import answers_at, condition_of, is_so_at, need_thing
from fewvisits.tongue import Always, Made, Same, Silent, Sometimes, Unlike, leads_of_row


def led_by(thing, state, operation):
    """The state to which any value leads as an operation, None if it cannot be played."""
    if not isinstance(operation, tuple) or len(operation) != 2:
        return None
    ask, answer = operation
    if not isinstance(ask, str) or not isinstance(answer, str) or ask not in thing.asks:
        return None
    given = {word: behind for word, behind in answers_at(thing, state, thing.asks.index(ask))}
    return given.get(answer)


def left_by_all(thing, operations):
    """The state to which any value leads as a list of operations from the first state, None if it cannot be played."""
    if not isinstance(operations, tuple):
        return None
    state = thing.first
    for operation in operations:
        state = led_by(thing, state, operation)
        if state is None:
            return None
    return state


def are_unlike_states(thing, value):
    """Whether it is a tuple of states of the thing, each once."""
    if not isinstance(value, tuple) or not all([thing.is_state(state) for state in value]):
        return False
    return len({state: True for state in value}) == len(value)


def rows_among(thing, states):
    """The rows (number, ask, answer, next number) of what is given at these states; None for a next one elsewhere."""
    numbers = {state: number for number, state in enumerate(states)}
    return [(number, ask, answer, numbers.get(behind)) for number, state in enumerate(states)
            for ask in range(len(thing.asks)) for answer, behind in answers_at(thing, state, ask)]


def is_made(thing, kind, states):
    """Whether these are the made kind, its states perhaps in another order, and the states of the thing for them."""
    if not isinstance(kind, Kind) or not are_unlike_states(thing, states):
        return False
    if kind.asks != thing.asks or kind.states != len(states) or states[kind.first] != thing.first:
        return False
    told = [(number, ask, kind.answers[answer], behind) for number, ask, answer, behind in kind.rows]
    given = rows_among(thing, states)
    if sorted(told) != sorted(given):
        return False
    words = {row[2]: True for row in given}
    return list(kind.answers) == sorted(list(words)) and len(ways(kind)) == kind.states


def is_silent(thing, operations, ask):
    """Whether these can be played, and the ask gets no answer behind them."""
    state = left_by_all(thing, operations)
    if state is None or not isinstance(ask, str) or ask not in thing.asks:
        return False
    return answers_at(thing, state, thing.asks.index(ask)) == ()


def shows_made(thing, value):
    """Whether a value is a right paper on the made kind."""
    need_thing(thing, "thing")
    if isinstance(value, Made):
        return is_made(thing, value.kind, value.states)
    return isinstance(value, Silent) and is_silent(thing, value.operations, value.ask)


def are_always_so(thing, phrase, states):
    """Whether these states show that a condition is so at all met ones."""
    if not are_unlike_states(thing, states) or len(states) > MOST_STATES or thing.first not in states:
        return False
    if None in [row[3] for row in rows_among(thing, states)]:
        return False
    return all([is_so_at(phrase, state) for state in states])


def shows_always(thing, condition, value):
    """Whether a value is a right paper on whether a condition is so at all met states."""
    need_thing(thing, "thing")
    phrase = condition_of(thing, condition)
    if isinstance(value, Always):
        return are_always_so(thing, phrase, value.states)
    state = left_by_all(thing, value.operations) if isinstance(value, Sometimes) else None
    return state is not None and not is_so_at(phrase, state)


def is_pair_of_numbers(value, one, other):
    """Whether it is a pair of numbers below one and below other."""
    if not isinstance(value, tuple) or len(value) != 2:
        return False
    return is_within(value[0], 0, one - 1) and is_within(value[1], 0, other - 1)


def lead_alike(here, there, told):
    """Whether two dicts of next states by operations have the same operations, each leading to a pair told."""
    if sorted(list(here)) != sorted(list(there)):
        return False
    return all([(here[operation], there[operation]) in told for operation in here])


def are_same(one, other, pairs):
    """Whether these pairs of numbers show that two things play the same."""
    mets = [met_of(one), met_of(other)]
    if any([met.silent is not None or met.is_over for met in mets]) or not isinstance(pairs, tuple):
        return False
    if not all([is_pair_of_numbers(pair, len(mets[0].states), len(mets[1].states)) for pair in pairs]):
        return False
    leads = [[leads_of_row(row) for row in met.rows] for met in mets]
    told = {pair: True for pair in pairs}
    if len(told) < len(pairs) or (0, 0) not in told:
        return False
    return all([lead_alike(leads[0][here], leads[1][there], told) for here, there in pairs])


def shows_same(one, other, value):
    """Whether a value is a right paper on whether two things play the same."""
    need_thing(one, "one")
    need_thing(other, "other")
    if isinstance(value, Same):
        return are_same(one, other, value.pairs)
    if not isinstance(value, Unlike) or not is_within(value.number, 0, 1):
        return False
    things = (one, other)
    alone, without = things[value.number], things[1 - value.number]
    return left_by_all(alone, value.operations) is not None and left_by_all(without, value.operations) is None
