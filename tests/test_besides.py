"""Which operations go beside one another, and papers on it."""

import random

from fewvisits.besides import Goes, Jars, beside_table, goes_beside
from fewvisits.check_besides import shows_beside
from fewvisits.errors import BadKind, BadNumber
from fewvisits.kinds import Kind, operations_of
from fewvisits.makers import bag, chest, counter, line, purse, shelf, tickets
from fewvisits.papers import Denial, Paper
from tests.naive import NO_INTEGERS, NO_LISTS, Odd, OwnInt, OwnList, leads_to, plain, random_kind
from tests.naive_pairs import all_operations, beside, closed, ends_of, is_jar, least_jar, reached, shaken, some_moves
from tests.refusing import Refusing

BOX = Kind(["put", "take"], ["ok", "short"], 2, 0, [(0, 0, 0, 1), (0, 1, 1, 0), (1, 0, 0, 1), (1, 1, 0, 0)])
PUT, TAKE, SHORT = (0, 0), (1, 0), (1, 1)
LATE = Kind(["go", "ask"], ["a", "b"], 7, 0,
            [(0, 0, 0, 1), (0, 1, 0, 2), (1, 0, 0, 1), (1, 1, 0, 3), (2, 0, 0, 4), (2, 1, 0, 2), (3, 0, 0, 5), (3, 1, 0, 3),
             (4, 0, 0, 6), (4, 1, 0, 4), (5, 0, 0, 5), (5, 1, 0, 5), (6, 0, 0, 6), (6, 1, 1, 6)])


def right_goes(kind, one, other, places, pairs):
    """Whether these lists show it, by looking along the rows."""
    told = {tuple(pair) for pair in pairs}
    if kind.first not in places or any(row[3] not in places for row in kind.rows if row[0] in places):
        return False
    for state in places:
        moves = [row[1:3] for row in kind.rows if row[0] == state]
        if one in moves and other in moves:
            ends = leads_to(kind, state, [one, other]), leads_to(kind, state, [other, one])
            if None in ends or ends not in told or ends[::-1] not in told:
                return False
    return all((row[3], leads_to(kind, there, [row[1:3]])) in told
               for here, there in told for row in kind.rows if row[0] == here)


def some_kinds():
    return [random_kind(seed, states=3 + seed % 2, asks=2, answers=2) for seed in range(40)] + \
        [BOX, tickets(2), counter(1), shelf(2, 0), chest(1), bag(1, 2), LATE]


class Beside(Refusing):

    def test_random(self):
        found = [0, 0]
        for kind in some_kinds():
            table = []
            for one in all_operations(kind):
                for other in all_operations(kind):
                    wanted = beside(kind, one, other)
                    told = goes_beside(kind, one, other)
                    found[wanted] += 1
                    self.assertIs(bool(told), wanted)
                    if wanted:
                        ends = ends_of(kind, one, other)
                        pairs = closed(kind, ends + [pair[::-1] for pair in ends])
                        self.assertEqual(told, Goes(reached(kind), pairs))
                    else:
                        table.append((one, other))
                        self.assertEqual(told, Jars(*least_jar(kind, [(one, other), (other, one)], 6)))
                    self.assertTrue(plain(told.parts))
                    self.assertIs(shows_beside(kind, one, other, told), True)
                    self.assertIs(shows_beside(kind, other, one, told), True)
            self.assertEqual(beside_table(kind), tuple(sorted(table)))
            self.assertTrue(plain(beside_table(kind)))
        self.assertGreater(min(found), 200)

    def test_what_parts_late(self):
        self.assertEqual(goes_beside(LATE, (0, 0), (1, 0)), Jars((), (0, 0), (1, 0), ((0, 0), (1, 1))))
        self.assertEqual(goes_beside(LATE, (1, 0), (0, 0)), Jars((), (0, 0), (1, 0), ((0, 0), (1, 1))))

    def test_great_kinds(self):
        many = 60
        ring = Kind(["a", "b"], ["x"], many, 3, sorted([(k, 0, 0, (k + 1) % many) for k in range(many)] +
                                                      [(k, 1, 0, (k + 7) % many) for k in range(many)]))
        told = goes_beside(ring, (0, 0), (1, 0))
        self.assertEqual(told, Goes(list(range(many)), [(k, k) for k in range(many)]))
        self.assertEqual(beside_table(ring), ())
        wide = line(3, 3)
        self.assertEqual(len(beside_table(wide)), sum(not goes_beside(wide, one, other) for one in operations_of(wide)
                                                      for other in operations_of(wide)))
        for kind in (chest(4), purse(8, 3), bag(4, 3), shelf(7, 2)):
            for one in operations_of(kind)[:4]:
                for other in operations_of(kind):
                    self.assertIs(shows_beside(kind, one, other, goes_beside(kind, one, other)), True)

    def test_impossible_operations(self):
        self.assertEqual(goes_beside(BOX, (0, 1), PUT), Goes((0, 1), ()))
        self.assertEqual(goes_beside(BOX, (0, 1), (0, 1)), Goes((0, 1), ()))
        self.assertIs(shows_beside(BOX, (0, 1), PUT, Goes([0, 1], [])), True)
        self.assertIs(shows_beside(BOX, (0, 1), PUT, Jars([], (0, 1), PUT, [])), False)

    def test_unreachable_states_do_not_count(self):
        kind = Kind(["a", "b"], ["x", "y"], 3, 0, [(0, 0, 0, 0), (0, 1, 0, 0), (1, 0, 0, 2), (1, 1, 0, 1), (2, 0, 0, 2), (2, 1, 1, 2)])
        self.assertEqual(goes_beside(kind, (0, 0), (1, 0)), Goes((0,), ((0, 0),)))
        self.assertEqual(beside_table(kind), ())
        self.assertIs(shows_beside(kind, (0, 0), (1, 0), Goes([0], [[0, 0]])), True)
        self.assertIs(shows_beside(kind, (0, 0), (1, 0), Goes([0, 1], [[0, 0]])), False)
        self.assertIs(shows_beside(kind, (0, 0), (1, 0), Goes([0, 2], [[0, 0]])), True)

    def test_errors(self):
        for value in (None, str(BOX), Kind, [BOX], Odd()):
            self.refuses(BadKind("kind"), goes_beside, value, None, None)
            self.refuses(BadKind("kind"), beside_table, value)
            self.refuses(BadKind("kind"), shows_beside, value, PUT, None, None)
        wrong = NO_INTEGERS + [(), (0,), (0, 0, 0), (2, 0), (0, 2), (-1, 0), (0, -1), (True, 0), (0, False), (0.0, 0),
                               (Odd(), 0), (None, 0), "00", [[0], 0], {0: 0, 1: 0}]
        for value in wrong:
            self.refuses(BadNumber("one"), goes_beside, BOX, value, PUT)
            self.refuses(BadNumber("one"), goes_beside, BOX, value, value)
            self.refuses(BadNumber("other"), goes_beside, BOX, PUT, value)
            self.refuses(BadNumber("one"), shows_beside, BOX, value, value, None)
            self.refuses(BadNumber("other"), shows_beside, BOX, (0, 1), value, Odd())
        self.assertEqual(goes_beside(other=[1, 0], one=OwnList([OwnInt(0), 0]), kind=BOX), goes_beside(BOX, PUT, TAKE))
        self.assertTrue(plain(goes_beside(BOX, OwnList([OwnInt(0), OwnInt(0)]), TAKE).parts))


class Shows(Refusing):

    def test_any_goes(self):
        found = [0, 0]
        for seed in range(1500):
            dice = random.Random(seed)
            kind = random_kind(seed, states=dice.randint(2, 4), asks=2, answers=1 + seed % 2)
            one, other = dice.choice(operations_of(kind)), dice.choice(operations_of(kind))
            places = reached(kind)
            ends = [pair for pair in ends_of(kind, one, other) if None not in pair]
            pairs = closed(kind, ends + [pair[::-1] for pair in ends])
            if dice.random() < 0.3:
                places = sorted(set(places) ^ {dice.randrange(kind.states)})
            pairs = shaken(dice, pairs, kind.states)
            wanted = right_goes(kind, one, other, places, pairs)
            found[wanted] += 1
            self.assertIs(shows_beside(kind, one, other, Goes(places, pairs)), wanted)
            self.assertIs(shows_beside(kind, one, other, Jars(places, pairs, one, other)), False)
        self.assertGreater(min(found), 200)

    def test_any_jars(self):
        found = [0, 0]
        for seed in range(2500):
            dice = random.Random(seed)
            kind = random_kind(seed, states=dice.randint(2, 4), asks=2, answers=2)
            one, other = dice.choice(all_operations(kind)), dice.choice(operations_of(kind))
            before = some_moves(dice, kind, 3)
            first, second = (one, other) if dice.random() < 0.5 else (other, one)
            end = leads_to(kind, kind.first, before + [second, first])
            behind = [] if end is None or dice.random() < 0.3 else \
                some_moves(dice, Kind(kind.asks, kind.answers, kind.states, end, kind.rows), 3)
            wanted = is_jar(kind, before, first, second, behind)
            found[wanted] += 1
            self.assertIs(shows_beside(kind, one, other, Jars(before, list(first), second, behind)), wanted)
        self.assertGreater(min(found), 200)

    def test_bent_goes(self):
        self.assertIs(shows_beside(BOX, SHORT, SHORT, Goes([0, 1], [[1, 1], (0, 0), (0, 0)])), True)
        self.assertIs(shows_beside(BOX, SHORT, SHORT, Goes(pairs=[(0, 0), (1, 1)], places=(0, 1))), True)
        pairs = [(0, 0), (1, 1)]
        for places in ([1, 0], [0], [1], [], [0, 0, 1], [0, 1, 2], [0, True], [0.0, 1], [0, 1.0], [-1, 0, 1], None, "01", 0,
                       {0, 1}, {0: 0, 1: 1}, Odd(), [Odd(), 1], [[0], [1]], range(2)):
            self.assertIs(shows_beside(BOX, SHORT, SHORT, Goes(places, pairs)), False, places)
        for other in ([], [(0, 0)], [(1, 1)], pairs + [(0, 2)], pairs + [(0, 1)], pairs + [(2, 0)], pairs + [(0,)],
                      pairs + [(0, 0, 0)], pairs + [None], pairs + [0], pairs + [Odd()], pairs + [(0, Odd())],
                      pairs + [(0, False)], [(0.0, 0), (1, 1)], [(0, 0), (True, True)], None, "ab", {(0, 0): 1, (1, 1): 1}, Odd(),
                      (0, 0)):
            self.assertIs(shows_beside(BOX, SHORT, SHORT, Goes([0, 1], other)), False, other)
        for value in NO_LISTS + [Paper("goes", [0, 1], pairs), Denial("goes", [0, 1], pairs), ([0, 1], pairs), None,
                                 Jars([0, 1], pairs, 0, 0)]:
            self.assertIs(shows_beside(BOX, SHORT, SHORT, value), False)

    def test_both_ways_round(self):
        # From 0 the two lead to 2 and 3, which are alike: the pair must be there both ways round.
        kind = Kind(["a", "b"], ["x"], 5, 0, [(0, 0, 0, 1), (0, 1, 0, 2), (1, 0, 0, 3), (1, 1, 0, 3), (2, 0, 0, 4), (2, 1, 0, 4),
                                              (3, 0, 0, 3), (3, 1, 0, 3), (4, 0, 0, 4), (4, 1, 0, 4)])
        self.assertEqual(goes_beside(kind, (0, 0), (1, 0)).pairs, ((3, 3), (3, 4), (4, 3), (4, 4)))
        right = [(3, 3), (3, 4), (4, 3), (4, 4)]
        for gone in right:
            pairs = [pair for pair in right if pair != gone]
            self.assertIs(shows_beside(kind, (0, 0), (1, 0), Goes([0, 1, 2, 3, 4], pairs)), False)

    def test_bent_jars(self):
        right = [[PUT], TAKE, PUT, [SHORT]]
        self.assertIs(shows_beside(BOX, PUT, TAKE, Jars(*right)), True)
        self.assertIs(shows_beside(BOX, TAKE, PUT, Jars(*right)), True)
        self.assertIs(shows_beside(BOX, PUT, TAKE, Jars([[0, 0], PUT], [1, 0], [0, 0], [[1, 1]])), True)
        self.assertIs(shows_beside(BOX, PUT, PUT, Jars(*right)), False)
        self.assertIs(shows_beside(BOX, PUT, SHORT, Jars(*right)), False)
        for place, values in ((0, [[], [(0, False)], [(2, 0)], [(0, 0, 0)], [PUT, None], None, "ab", 7, Odd(), [Odd()]]),
                              (1, [PUT, SHORT, (True, 0), (1.0, 0), (1, False), (1,), None, Odd(), 10, "10"]),
                              (2, [TAKE, SHORT, (0, 0.0), (False, 0), (0, 0, 0), None, (Odd(), 0)]),
                              (3, [[], [TAKE], [(1, True)], [SHORT, None], [SHORT, (0, 9)], None, (1, 1), Odd(), [Odd()]])):
            for value in values:
                parts = right[:place] + [value] + right[place + 1:]
                self.assertIs(shows_beside(BOX, PUT, TAKE, Jars(*parts)), False, (place, value))
        # Without anything behind the first way round alone counts.
        self.assertIs(shows_beside(BOX, TAKE, TAKE, Jars([PUT], TAKE, TAKE, [])), True)
        self.assertIs(shows_beside(BOX, TAKE, TAKE, Jars([PUT], TAKE, TAKE, [SHORT])), False)
        self.assertIs(shows_beside(BOX, SHORT, PUT, Jars([], PUT, SHORT, [])), True)
        self.assertIs(shows_beside(BOX, SHORT, PUT, Jars([], SHORT, PUT, [])), False)
        self.assertIs(shows_beside(BOX, SHORT, PUT, Jars([], PUT, SHORT, [TAKE])), True)
