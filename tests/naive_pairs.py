"""Slow and plain ways of telling what goes beside what, and what is unnoticed; only for tests."""

import itertools
import random

from tests.naive import all_able, leads_to, lists_played


def reached(kind):
    """The reachable states, ascending."""
    found = {kind.first}
    while True:
        more = found | {row[3] for row in kind.rows if row[0] in found}
        if more == found:
            return sorted(found)
        found = more


def closed(kind, pairs, by=None):
    """These pairs of states, and those to which operations of by, or all, lead from both of a pair; ascending."""
    found = set(pairs)
    while True:
        more = set(found)
        for one, other in found:
            for state, ask, answer, behind in kind.rows:
                if state == one and (by is None or (ask, answer) in by):
                    beside = leads_to(kind, other, [(ask, answer)])
                    if beside is not None:
                        more.add((behind, beside))
        if more == found:
            return sorted(found)
        found = more


def able_by(kind, by):
    """All pairs (one, other) of states such that other can all by these operations that one can."""
    pairs = {(one, other) for one in range(kind.states) for other in range(kind.states)}
    while True:
        left = {(one, other) for one, other in pairs
                if all((behind, leads_to(kind, other, [(ask, answer)])) in pairs
                       for state, ask, answer, behind in kind.rows if state == one and (ask, answer) in by)}
        if left == pairs:
            return pairs
        pairs = left


def ends_of(kind, one, other):
    """For each reachable state from which both are possible the states behind one, other and behind other, one."""
    return [(leads_to(kind, state, [one, other]), leads_to(kind, state, [other, one])) for state in reached(kind)
            if leads_to(kind, state, [one]) is not None and leads_to(kind, state, [other]) is not None]


def beside(kind, one, other):
    """Whether two operations go beside one another, as it is told of."""
    able = all_able(kind)
    return all(pair in able and pair[::-1] in able for pair in ends_of(kind, one, other))


def is_jar(kind, before, first, second, behind):
    """Whether these are parts of a Jars, as it is told of."""
    def plays(*moves):
        return leads_to(kind, kind.first, sum(map(tuple, moves), ())) is not None
    if not plays(before, [first]) or not plays(before, [second]):
        return False
    return not plays(before, [first, second], behind) and (not behind or plays(before, [second, first], behind))


def lists_behind(kind, state, many):
    """All lists of just so many operations that can be played from a state."""
    return [moves for moves, _ in lists_played(kind, state, many) if len(moves) == many]


def least_jar(kind, couples, longest):
    """The parts of the least Jars of these couples with at most so many operations; None if there is none."""
    for total in range(longest + 1):
        found = []
        for before, state in lists_played(kind, kind.first, total):
            for first, second in couples:
                end = leads_to(kind, state, [second, first])
                for behind in [()] if total == len(before) else \
                        lists_behind(kind, end, total - len(before)) if end is not None else []:
                    if is_jar(kind, before, first, second, behind):
                        found.append((before, first, second, behind))
        if found:
            return min(found)
    return None


def least_noticed(kind, operation, by, longest):
    """The parts (before, behind) of the least Noticed with at most so many operations; None if there is none."""
    for total in range(longest + 1):
        found = []
        for before, state in lists_played(kind, kind.first, total):
            end = leads_to(kind, state, [operation])
            if end is not None:
                for behind in lists_behind(kind, state, total - len(before)):
                    if all(move in by for move in behind) and leads_to(kind, end, behind) is None:
                        found.append((before, behind))
        if found:
            return min(found)
    return None


def all_operations(kind):
    """All pairs of an ask and an answer, possible anywhere or not."""
    return list(itertools.product(range(len(kind.asks)), range(len(kind.answers))))


def some_moves(dice, kind, longest):
    """Some list of operations of the kind, most of them played from the first state."""
    moves, state = [], kind.first
    for _ in range(dice.randrange(longest + 1)):
        rows = [row for row in kind.rows if row[0] == state]
        row = dice.choice(rows) if dice.random() < 0.9 else dice.choice(kind.rows)
        moves.append(row[1:3])
        state = row[3]
    return moves


def shaken(dice, pairs, states):
    """Pairs of states in another order, some twice, and perhaps some left out or others put in."""
    found = list(pairs) + [pair for pair in pairs if dice.random() < 0.2]
    if dice.random() < 0.4:
        found.append((dice.randrange(states), dice.randrange(states)))
    if dice.random() < 0.3 and found:
        gone = dice.choice(found)
        found = [pair for pair in found if pair != gone]
    dice.shuffle(found)
    return [list(pair) for pair in found]


