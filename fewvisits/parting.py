"""What can be played from one state and not from another, and what pairs of states lead to."""

from fewvisits.kinds import behind_of, moves_of


def moves_by(kind, by):
    """For each state its rows (ask, answer, next) of these operations, ascending; all its rows if by is None."""
    return [[move for move in moves_of(kind, state) if by is None or move[:2] in by] for state in range(kind.states)]


def led_pairs(kind, moves, one, other):
    """The pairs to which the moves of one lead from both, None in the place of a state that is not there."""
    return [(behind, behind_of(kind, other, ask, answer)) for ask, answer, behind in moves[one]]


def lengths_apart(kind, moves):
    """For each pair (one, other) the length of the shortest list of moves played from one and not from other.

    Pairs without such a list are left out.
    """
    found = {}
    ahead = {}
    queue = []
    for one in range(kind.states):
        for other in range(kind.states):
            pairs = led_pairs(kind, moves, one, other)
            if any([beside is None for _, beside in pairs]):
                found[(one, other)] = 1
                queue.append((one, other))
                continue
            for pair in pairs:
                ahead.setdefault(pair, []).append((one, other))
    place = 0
    while place < len(queue):
        here = queue[place]
        place = place + 1
        for pair in ahead.get(here, ()):
            if pair not in found:
                found[pair] = found[here] + 1
                queue.append(pair)
    return found


def least_apart(kind, moves, lengths, one, other):
    """The shortest, then least list of moves played from one and not from other; lengths tells that there is one."""
    found = []
    for left in range(lengths[(one, other)] - 1, -1, -1):
        for ask, answer, behind in moves[one]:
            beside = behind_of(kind, other, ask, answer)
            # With nothing left the last operation is one that is not possible from other.
            if lengths.get((behind, beside)) == left or (left == 0 and beside is None):
                found.append((ask, answer))
                one, other = behind, beside
                break
    return tuple(found)


def carried(kind, moves, pairs):
    """These pairs, and each pair to which a move leads from both of a pair among them, ascending."""
    told = {pair: True for pair in pairs}
    queue = list(told)
    place = 0
    while place < len(queue):
        one, other = queue[place]
        place = place + 1
        for pair in led_pairs(kind, moves, one, other):
            if pair[1] is not None and pair not in told:
                told[pair] = True
                queue.append(pair)
    return tuple(sorted(queue))
