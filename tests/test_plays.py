"""Playing, states that can all that others can, alike states, reduced kinds."""

import unittest

from fewvisits.alike import Alike, Parts, alike_classes, can_as, reduced, way_to
from fewvisits.errors import BadKind, BadNumber
from fewvisits.kinds import Kind
from fewvisits.makers import bag, chest, counter, line, pile, purse, shelf, tickets
from fewvisits.plays import after, answers_to, played, reachable
from tests.naive import (NO_INTEGERS, NO_LISTS, Odd, OwnInt, OwnList, all_able, leads_to, lists_played, plain,
                         random_kind)
from tests.refusing import Refusing

BOX = Kind(["put", "take"], ["ok", "short"], 2, 0, [(0, 0, 0, 1), (0, 1, 1, 0), (1, 0, 0, 1), (1, 1, 0, 0)])
SEEDS = range(120)


class Plays(Refusing):

    def test_after_and_answers(self):
        for seed in SEEDS:
            kind = random_kind(seed)
            for state in range(kind.states):
                for ask in range(len(kind.asks)):
                    wanted = [row[2] for row in kind.rows if row[:2] == (state, ask)]
                    self.assertEqual(answers_to(kind, state, ask), tuple(wanted))
                    for answer in range(len(kind.answers)):
                        self.assertEqual(after(kind, state, ask, answer), leads_to(kind, state, [(ask, answer)]))

    def test_played(self):
        for seed in SEEDS:
            kind = random_kind(seed)
            for state in range(kind.states):
                for moves, behind in lists_played(kind, state, 3):
                    self.assertEqual(played(kind, state, [list(move) for move in moves]), behind)
                every = [(ask, answer) for ask in range(len(kind.asks)) for answer in range(len(kind.answers))]
                for one in every:
                    for other in every:
                        self.assertEqual(played(kind, state, (one, other)), leads_to(kind, state, [one, other]))

    def test_played_long(self):
        self.assertEqual(played(BOX, 0, [(0, 0), (1, 0)] * 2000), 0)
        self.assertIsNone(played(BOX, 0, [(0, 0), (1, 0)] * 2000 + [(1, 0)]))

    def test_reachable(self):
        for seed in SEEDS:
            kind = random_kind(seed)
            wanted = {behind for _, behind in lists_played(kind, kind.first, kind.states)}
            self.assertEqual(reachable(kind), tuple(sorted(wanted)))

    def test_errors(self):
        for function, given in ((after, [BOX, 0, 0, 0]), (answers_to, [BOX, 0, 0]), (played, [BOX, 0, []]),
                                (reachable, [BOX])):
            for value in [None, str(BOX), Kind, True, Odd()]:
                self.refuses(BadKind("kind"), function, value, *([Odd()] * (len(given) - 1)))
        for value in NO_INTEGERS + [-1, 2, 10 ** 59]:
            self.refuses(BadNumber("state"), after, BOX, value, 9, 9)
            self.refuses(BadNumber("ask"), after, BOX, 0, value, 9)
            self.refuses(BadNumber("answer"), after, BOX, 0, 0, value)
            self.refuses(BadNumber("state"), answers_to, BOX, value, 9)
            self.refuses(BadNumber("ask"), answers_to, BOX, 0, value)
            self.refuses(BadNumber("state"), played, BOX, value, 9)
        for value in NO_LISTS + [[0], [(0,)], [(0, 0, 0)], [(0, 2)], [(2, 0)], [(0, -1)], [(-1, 0)], [(True, 0)], [(0, False)],
                                 [(0, 0), None], [(0, 0), "00"], [(0, 1.0)], (0, 0), [[[0], 0]]]:
            self.refuses(BadNumber("operations"), played, BOX, 0, value)
        # An operation that cannot be played does not hide one that is none.
        self.refuses(BadNumber("operations"), played, BOX, 0, [(1, 0), (5, 5)])

    def test_by_name_and_plain(self):
        self.assertEqual(after(kind=BOX, answer=0, ask=0, state=0), 1)
        self.assertEqual(answers_to(ask=1, kind=BOX, state=OwnInt(0)), (1,))
        self.assertEqual(played(operations=[(0, 0)], kind=BOX, state=0), 1)
        self.assertEqual(reachable(kind=BOX), (0, 1))
        self.assertTrue(plain(played(BOX, OwnInt(1), OwnList())))
        self.assertIs(type(played(BOX, OwnInt(1), [])), int)


class AlikeStates(Refusing):

    def test_can_as(self):
        both = [0, 0]
        for seed in SEEDS:
            kind = random_kind(seed, states=4)
            able = all_able(kind)
            for one in range(4):
                for other in range(4):
                    paper = can_as(kind, one, other)
                    both[bool(paper)] += 1
                    if (one, other) in able:
                        self.assertEqual(paper, Alike(self.met(kind, one, other)))
                    else:
                        self.assertEqual(paper, Parts(self.least_part(kind, one, other)))
                    self.assertTrue(plain(paper.parts))
        self.assertTrue(all(both))

    def met(self, kind, one, other):
        """All pairs to which lists lead that are played from both."""
        found = {(one, other)}
        while True:
            more = set(found)
            for here, there in found:
                for state, ask, answer, behind in kind.rows:
                    if state == here and leads_to(kind, there, [(ask, answer)]) is not None:
                        more.add((behind, leads_to(kind, there, [(ask, answer)])))
            if more == found:
                return sorted(found)
            found = more

    def least_part(self, kind, one, other):
        for longest in range(1, 8):
            for moves, _ in lists_played(kind, one, longest):
                if leads_to(kind, other, moves) is None:
                    return moves
        raise AssertionError("too long a list")

    def test_can_as_in_made_kinds(self):
        kind = line(3, 3)
        self.assertEqual(can_as(kind, 1, 2).operations, ((3, 3),))
        # States 13 and 14 stand for (0, 0, 0) and (0, 0, 1).
        self.assertEqual(can_as(kind, 13, 14).operations, ((3, 3), (3, 3), (3, 3)))
        self.assertEqual(len(can_as(kind, 5, 5).pairs), 40)

    def test_can_as_errors(self):
        for value in [None, Kind, Odd()]:
            self.refuses(BadKind("kind"), can_as, value, 9, 9)
        for value in NO_INTEGERS + [-1, 2]:
            self.refuses(BadNumber("one"), can_as, BOX, value, value)
            self.refuses(BadNumber("other"), can_as, BOX, 0, value)
            self.refuses(BadNumber("state"), way_to, BOX, value)
        for function in (alike_classes, reduced):
            self.refuses(BadKind("kind"), function, None)
        self.refuses(BadKind("kind"), way_to, None, None)

    def test_classes(self):
        for seed in SEEDS:
            kind = random_kind(seed)
            able = all_able(kind)
            lots = {}
            for state in reachable(kind):
                alike = tuple(other for other in reachable(kind) if (state, other) in able and (other, state) in able)
                lots[alike] = True
            self.assertEqual(alike_classes(kind), tuple(sorted(lots)))

    def test_ways(self):
        for seed in SEEDS:
            kind = random_kind(seed)
            found = {}
            for moves, behind in lists_played(kind, kind.first, kind.states):
                found.setdefault(behind, moves)
            for state in range(kind.states):
                self.assertEqual(way_to(kind, state), found.get(state))
        self.assertEqual(way_to(tickets(11), 11), tuple((0, k) for k in range(11)))
        self.assertEqual(way_to(BOX, 0), ())

    def test_reduced(self):
        for seed in SEEDS:
            kind = random_kind(seed)
            small = reduced(kind)
            self.assertEqual((small.asks, small.answers, small.first), (kind.asks, kind.answers, 0))
            classes = alike_classes(kind)
            ways = [min([way_to(kind, state) for state in lot], key=lambda way: (len(way), way)) for lot in classes]
            order = sorted(range(len(classes)), key=lambda k: (len(ways[k]), ways[k]))
            number = {state: place for place, k in enumerate(order) for state in classes[k]}
            rows = {(number[row[0]], row[1], row[2], number[row[3]]) for row in kind.rows if row[0] in number}
            self.assertEqual(small.rows, tuple(sorted(rows)))
            self.assertEqual(small.states, len(classes))
            self.assertEqual(reduced(small), small)
            longest = 3
            self.assertEqual([moves for moves, _ in lists_played(kind, kind.first, longest)],
                             [moves for moves, _ in lists_played(small, 0, longest)])

    def test_same_lists_same_reduced(self):
        for kind in (purse(4, 2), chest(3), counter(5), shelf(3, 1), bag(3, 2), line(2, 2)):
            turned = [(kind.states - 1 - row[0], row[1], row[2], kind.states - 1 - row[3]) for row in kind.rows]
            other = Kind(kind.asks, kind.answers, kind.states, kind.states - 1 - kind.first, sorted(turned))
            self.assertEqual(reduced(kind), reduced(other))
        self.assertEqual(reduced(line(3, 1)), reduced(pile(3, 1)))
        self.assertNotEqual(reduced(line(2, 2)), reduced(pile(2, 2)))

    def test_largest_kinds(self):
        # A ring of 60 states that only one of them tells from the others, and 600 rows.
        rows = []
        for state in range(60):
            rows += [(state, ask, 0, (state + 1 + ask) % 60) for ask in range(8)]
            rows += [(state, 0, 1 + k, state) for k in range(2)]
        rows[-1] = (59, 0, 3, 59)
        kind = Kind([f"a{k}" for k in range(8)], [f"r{k}" for k in range(4)], 60, 0, sorted(rows))
        self.assertEqual(len(kind.rows), 600)
        self.assertEqual(len(alike_classes(kind)), 60)
        self.assertEqual(reduced(kind).states, 60)
        for one in range(60):
            self.assertEqual(bool(can_as(kind, one, 17)), one == 17)

    def test_by_name(self):
        self.assertEqual(can_as(other=0, one=0, kind=BOX).pairs, ((0, 0), (1, 1)))
        self.assertEqual(way_to(state=1, kind=BOX), ((0, 0),))
        self.assertEqual(alike_classes(kind=BOX), ((0,), (1,)))
        self.assertEqual(reduced(kind=BOX), BOX)


if __name__ == "__main__":
    unittest.main()
