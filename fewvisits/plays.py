"""Playing operations of a kind from a state."""

from fewvisits.checks import is_list, need_number
from fewvisits.errors import BadNumber
from fewvisits.kinds import behind_of, is_operation, moves_of, need_kind


def after(kind, state, ask, answer):
    """The state to which the operation leads, None if it is not possible."""
    need_kind(kind)
    need_number(state, kind.states, "state")
    need_number(ask, len(kind.asks), "ask")
    need_number(answer, len(kind.answers), "answer")
    return behind_of(kind, state, ask, answer)


def answers_to(kind, state, ask):
    """The answers that the ask may get, ascending."""
    need_kind(kind)
    need_number(state, kind.states, "state")
    need_number(ask, len(kind.asks), "ask")
    return tuple([answer for other, answer, _ in moves_of(kind, state) if other == ask])


def lead(kind, state, moves):
    """The state to which operations lead, None if they cannot be played; nothing is checked."""
    for ask, answer in moves:
        state = behind_of(kind, state, ask, answer)
        if state is None:
            return None
    return state


def are_operations(kind, value):
    """Whether it is a list of operations of the kind."""
    return is_list(value) and all([is_operation(kind, item) for item in value])


def played(kind, state, operations):
    """The state to which a list of operations leads, None if it cannot be played."""
    need_kind(kind)
    need_number(state, kind.states, "state")
    if not are_operations(kind, operations):
        raise BadNumber("operations")
    return lead(kind, int(state), operations)


def ways(kind):
    """For each reachable state the shortest, then least list of operations to it, shortest, then least first."""
    found = {kind.first: ()}
    queue = [kind.first]
    place = 0
    while place < len(queue):
        state = queue[place]
        place = place + 1
        for ask, answer, behind in moves_of(kind, state):
            if behind not in found:
                found[behind] = found[state] + ((ask, answer),)
                queue.append(behind)
    return found


def reachable(kind):
    """The reachable states, ascending."""
    need_kind(kind)
    return tuple(sorted(ways(kind)))
