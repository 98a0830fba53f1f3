"""Papers on states that can all that others can."""

import random
import unittest

from fewvisits.alike import Alike, Parts, can_as
from fewvisits.check_alike import shows_alike
from fewvisits.errors import BadKind, BadNumber
from fewvisits.kinds import Kind
from fewvisits.makers import line
from fewvisits.papers import Denial, Paper
from tests.naive import NO_INTEGERS, NO_LISTS, Odd, OwnInt, OwnList, all_able, leads_to, lists_played, random_kind
from tests.refusing import Refusing

FOUR = Kind(["ask"], ["a", "b"], 4, 1, [(0, 0, 1, 0), (1, 0, 0, 2), (1, 0, 1, 3), (2, 0, 0, 2), (3, 0, 0, 3)])


def right_pairs(kind, one, other, pairs):
    """Whether pairs of states show it, by looking along the rows."""
    for here, there in pairs:
        for state, ask, answer, behind in kind.rows:
            if state == here and (behind, leads_to(kind, there, [(ask, answer)])) not in pairs:
                return False
    return (one, other) in pairs


class Shows(Refusing):

    def test_what_can_as_tells(self):
        for seed in range(60):
            kind = random_kind(seed, states=4)
            for one in range(4):
                for other in range(4):
                    self.assertIs(shows_alike(kind, one, other, can_as(kind, one, other)), True)

    def test_any_pairs(self):
        told = [0, 0]
        for seed in range(400):
            dice = random.Random(seed)
            kind = random_kind(seed, states=dice.randint(2, 4), answers=2)
            one, other = dice.randrange(kind.states), dice.randrange(kind.states)
            able = sorted(all_able(kind))
            pairs = [pair for pair in able if dice.random() < 0.9] + [dice.choice(able)]
            dice.shuffle(pairs)
            wanted = right_pairs(kind, one, other, pairs)
            told[wanted] += 1
            self.assertIs(shows_alike(kind, one, other, Alike([list(pair) for pair in pairs])), wanted)
            self.assertIs(shows_alike(kind, one, other, Alike(able)), (one, other) in able)
            self.assertIs(shows_alike(kind, one, other, Alike(able[::-1] + able)), (one, other) in able)
        self.assertGreater(min(told), 40)

    def test_any_parts(self):
        for seed in range(30):
            kind = random_kind(seed, states=3)
            for one in range(3):
                for other in range(3):
                    for moves, _ in lists_played(kind, one, 3):
                        wanted = leads_to(kind, other, moves) is None
                        self.assertIs(shows_alike(kind, one, other, Parts(moves)), wanted)
                    self.assertIs(shows_alike(kind, one, one, Parts([(0, 0), (0, 0)])), False)

    def test_longer_parts(self):
        kind = line(2, 2)
        self.assertIs(shows_alike(kind, 1, 2, Parts([(2, 3)])), True)
        self.assertIs(shows_alike(kind, 1, 2, Parts([(0, 0), (2, 3), (2, 3)])), True)
        self.assertIs(shows_alike(kind, 1, 2, Parts([(0, 0), (2, 4)])), False)

    def test_bent_papers(self):
        right = [(2, 1), (2, 2), (3, 3)]
        self.assertIs(shows_alike(FOUR, 2, 1, Alike(right)), True)
        bent = [right[:1], right[1:], [], [(2, 1)], right + [(4, 4)], right + [(-1, 0)], right + [(-1, 3)], right + [(0,)], right + [0],
                right + [(1, 2)], right + [(0, 0, 0)], right + [None], [(2, True), (2, 2)], right + [(2.0, 2)],
                right + [(2, True)], right + ["22"], right + [Odd()], right + [(Odd(), 0)], right + [{2: 2}],
                right + [([2], 2)]]
        for pairs in bent + NO_LISTS:
            self.assertIs(shows_alike(FOUR, 2, 1, Alike(pairs)), False)
        good = [(0, 1)]
        self.assertIs(shows_alike(FOUR, 1, 2, Parts(good)), True)
        for moves in [[], [(0, 0)], [(0, 0), (0, 1)], [(0, True)], [(False, 1)], [(0, 2)], [(1, 1)], [(0, 1), (0, 1)],
                      [(0,)], [0, 1], [(0, 1), None], [(0, 1, 0)], [(0, 1.0)], [Odd()], [(0, Odd())]] + NO_LISTS:
            self.assertIs(shows_alike(FOUR, 1, 2, Parts(moves)), False)

    def test_other_values(self):
        pairs = ((2, 1), (2, 2))
        for value in NO_LISTS + [pairs, (pairs,), Paper("alike", pairs), Denial("alike", pairs), Alike, "alike",
                                 Paper("parts", ((0, 1),)), Parts(pairs)]:
            self.assertIs(shows_alike(FOUR, 2, 1, value), False)
        self.assertIs(shows_alike(FOUR, 1, 2, Alike([(1, 2), (2, 2), (3, 2)])), False)
        self.assertIs(shows_alike(FOUR, 1, 2, Denial("parts", ((0, 1),))), False)
        self.assertIs(shows_alike(value=Alike(OwnList([(OwnInt(2), 1), (2, 2)])), other=1, one=OwnInt(2), kind=FOUR), True)

    def test_errors(self):
        for value in (None, str(FOUR), Kind, Odd()):
            self.refuses(BadKind("kind"), shows_alike, value, 9, 9, None)
        for value in NO_INTEGERS + [-1, 4]:
            self.refuses(BadNumber("one"), shows_alike, FOUR, value, value, Odd())
            self.refuses(BadNumber("other"), shows_alike, FOUR, 0, value, Alike([]))


if __name__ == "__main__":
    unittest.main()
