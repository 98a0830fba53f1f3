"""Which operations are unnoticed by others, and papers on it."""

import random

from fewvisits.check_right import shows_unnoticed
from fewvisits.errors import BadKind, BadNumber
from fewvisits.kinds import Kind, operations_of
from fewvisits.makers import bag, chest, counter, line, purse, tickets
from fewvisits.papers import Denial, Paper
from fewvisits.unnoticed import Noticed, Unnoticed, able_pairs, unnoticed
from tests.naive import NO_INTEGERS, NO_LISTS, Odd, OwnInt, OwnList, leads_to, plain, random_kind
from tests.naive_pairs import able_by, all_operations, closed, least_noticed, reached, shaken, some_moves
from tests.refusing import Refusing
from tests.test_besides import BOX, LATE, PUT, SHORT, TAKE


def steps(kind, operation, places):
    """The pairs of a state from which an operation is possible, and of the next one."""
    return [(row[0], row[3]) for row in kind.rows if row[0] in places and row[1:3] == operation]


def right_pairs(kind, operation, by, places, pairs):
    """Whether these lists show that an operation is unnoticed, by looking along the rows."""
    told = {tuple(pair) for pair in pairs}
    if kind.first not in places or any(row[3] not in places for row in kind.rows if row[0] in places):
        return False
    if not set(steps(kind, operation, places)) <= told:
        return False
    return all((row[3], leads_to(kind, there, [row[1:3]])) in told
               for here, there in told for row in kind.rows if row[0] == here and row[1:3] in by)


def is_notice(kind, operation, by, before, behind):
    """Whether two lists are parts of a Noticed, as it is told of."""
    def plays(moves):
        return leads_to(kind, kind.first, moves) is not None
    before, behind = list(before), list(behind)
    return plays(before + behind) and plays(before + [operation]) and all(move in by for move in behind) and \
        not plays(before + [operation] + behind)


def some_kinds():
    return [random_kind(seed, states=2 + seed % 3, asks=2, answers=2) for seed in range(50)] + \
        [BOX, tickets(2), counter(1), chest(1), bag(1, 2), LATE]


class Noticing(Refusing):

    def test_random(self):
        found = [0, 0]
        for number, kind in enumerate(some_kinds()):
            dice = random.Random(number)
            places = reached(kind)
            for operation in all_operations(kind):
                by = [move for move in all_operations(kind) if dice.random() < 0.6]
                able = able_by(kind, by)
                self.assertEqual(able_pairs(kind, by), tuple(sorted(pair for pair in able if set(pair) <= set(places))))
                wanted = all(pair in able for pair in steps(kind, operation, places))
                paper = unnoticed(kind, operation, by)
                found[wanted] += 1
                if wanted:
                    self.assertEqual(paper, Unnoticed(places, closed(kind, steps(kind, operation, places), by)))
                else:
                    self.assertEqual(paper, Noticed(*least_noticed(kind, operation, by, 6)))
                self.assertTrue(plain(paper.parts))
                self.assertIs(shows_unnoticed(kind, operation, by, paper), True)
                dice.shuffle(by)
                self.assertEqual(unnoticed(kind, list(operation), [list(move) for move in by + by]), paper)
                self.assertEqual(able_pairs(kind, by + by[:1]), able_pairs(kind, by))
        self.assertGreater(min(found), 60)

    def test_states_that_part_late(self):
        late = [unnoticed(LATE, move, operations_of(LATE)) for move in operations_of(LATE)]
        self.assertEqual([(paper.before, paper.behind) for paper in late if not paper],
                         [least_noticed(LATE, move, operations_of(LATE), 6) for move, paper in zip(operations_of(LATE), late) if not paper])
        self.assertGreaterEqual(max(len(paper.behind) for paper in late if not paper), 2)
        ring = Kind(["a", "b"], ["x", "y"], 60, 0, sorted([(k, 0, 0, (k + 1) % 60) for k in range(60)] +
                                                         [(k, 1, 1 if k == 59 else 0, k) for k in range(60)]))
        told = unnoticed(ring, (0, 0), [(0, 0), (1, 0), (1, 1)])
        self.assertEqual(told, Noticed([], [(0, 0)] * 58 + [(1, 0)]))
        self.assertEqual(unnoticed(ring, (0, 0), [(0, 0), (1, 1)]), Noticed([], [(0, 0)] * 59 + [(1, 1)]))
        self.assertEqual(len(unnoticed(ring, (1, 0), operations_of(ring)).pairs), 60)

    def test_great_kinds(self):
        for kind in (line(3, 3), bag(4, 3), purse(8, 3), chest(4)):
            moves = operations_of(kind)
            for operation in moves[:5]:
                for by in (moves, moves[::2], moves[:3], []):
                    self.assertIs(shows_unnoticed(kind, operation, by, unnoticed(kind, operation, by)), True)

    def test_by_nobody(self):
        self.assertEqual(unnoticed(BOX, TAKE, []), Unnoticed((0, 1), ((1, 0),)))
        self.assertEqual(unnoticed(BOX, (0, 1), operations_of(BOX)), Unnoticed((0, 1), ()))
        self.assertEqual(able_pairs(BOX, [(0, 1)]), ((0, 0), (0, 1), (1, 0), (1, 1)))

    def test_errors(self):
        for value in (None, str(BOX), Kind, Odd()):
            self.refuses(BadKind("kind"), able_pairs, value, None)
            self.refuses(BadKind("kind"), unnoticed, value, None, None)
            self.refuses(BadKind("kind"), shows_unnoticed, value, None, None, None)
        wrong = NO_INTEGERS + [(), (0,), (0, 0, 0), (2, 0), (0, 2), (-1, 0), (True, 0), (0, 0.0), (Odd(), 0), "00"]
        for value in wrong:
            self.refuses(BadNumber("operation"), unnoticed, BOX, value, None)
            self.refuses(BadNumber("operation"), shows_unnoticed, BOX, value, value, None)
            for by in ([value], [PUT, value], (value,)):
                self.refuses(BadNumber("by"), unnoticed, BOX, PUT, by)
                self.refuses(BadNumber("by"), able_pairs, BOX, by)
                self.refuses(BadNumber("by"), shows_unnoticed, BOX, PUT, by, Odd())
        for by in NO_LISTS + [PUT]:
            self.refuses(BadNumber("by"), unnoticed, BOX, PUT, by)
            self.refuses(BadNumber("by"), able_pairs, BOX, by)
        self.assertEqual(unnoticed(by=[SHORT], operation=OwnList([OwnInt(0), 0]), kind=BOX), Noticed(behind=[SHORT], before=[]))


class Shows(Refusing):

    def test_any_pairs(self):
        found = [0, 0]
        for seed in range(1500):
            dice = random.Random(seed)
            kind = random_kind(seed, states=dice.randint(2, 4), asks=2, answers=1 + seed % 2)
            by = [move for move in all_operations(kind) if dice.random() < 0.5]
            operation = dice.choice(operations_of(kind))
            places = reached(kind)
            pairs = closed(kind, steps(kind, operation, places), by)
            if dice.random() < 0.3:
                places = sorted(set(places) ^ {dice.randrange(kind.states)})
            pairs = shaken(dice, pairs, kind.states)
            wanted = right_pairs(kind, operation, by, places, pairs)
            found[wanted] += 1
            self.assertIs(shows_unnoticed(kind, operation, by, Unnoticed(places, pairs)), wanted)
        self.assertGreater(min(found), 300)

    def test_any_lists(self):
        found = [0, 0]
        for seed in range(3000):
            dice = random.Random(seed)
            kind = random_kind(seed, states=dice.randint(2, 4), asks=2, answers=2)
            by = [move for move in all_operations(kind) if dice.random() < 0.7]
            operation = dice.choice(operations_of(kind))
            before = some_moves(dice, kind, 3)
            state = leads_to(kind, kind.first, before)
            here = Kind(kind.asks, kind.answers, kind.states, kind.first if state is None else state, kind.rows)
            behind = some_moves(dice, here, 4)
            wanted = is_notice(kind, operation, by, before, behind)
            found[wanted] += 1
            self.assertIs(shows_unnoticed(kind, operation, by, Noticed(before, [list(move) for move in behind])), wanted)
        self.assertGreater(min(found), 150)

    def test_bent(self):
        self.assertIs(shows_unnoticed(BOX, PUT, [TAKE], Unnoticed([0, 1], [[1, 1], [0, 1], (0, 0), (1, 1)])), True)
        self.assertIs(shows_unnoticed(BOX, PUT, [], Unnoticed(pairs=[(1, 1), (0, 1)], places=[0, 1])), True)
        right = [(0, 1), (1, 1), (0, 0)]
        for places in NO_LISTS + [[1, 0], [0], [1], [], [0, 0, 1], [0, 1, 2], [0, True], [0.0, 1], [Odd(), 1]]:
            self.assertIs(shows_unnoticed(BOX, PUT, [TAKE], Unnoticed(places, right)), False)
        for pairs in NO_LISTS + [[], right[:1], right[1:], right + [(1, 0)], right + [(0, 2)], right + [(0,)], right + [(0, 0, 0)],
                                 right + [None], right + [Odd()], right + [(0, Odd())], [(0, True), (1, 1), (0, 0)],
                                 [(0.0, 1), (1, 1), (0, 0)]]:
            self.assertIs(shows_unnoticed(BOX, PUT, [TAKE], Unnoticed(places=[0, 1], pairs=pairs)), False)
        self.assertIs(shows_unnoticed(BOX, PUT, [SHORT], Unnoticed([0, 1], right)), False)
        self.assertIs(shows_unnoticed(BOX, PUT, [SHORT], Noticed([PUT, TAKE], [SHORT])), True)
        self.assertIs(shows_unnoticed(BOX, PUT, [SHORT], Noticed([list(PUT), [1, 0]], [[1, 1], [1, 1]])), True)
        for before, behind in (([PUT], [SHORT]), ([], []), ([], [SHORT, PUT]), ([], [PUT]), ([], [(True, 1)]), ([], [(1, 1.0)]),
                               ([(False, 0), TAKE], [SHORT]), ([], None), (None, [SHORT]), ([], [None]), ([Odd()], [SHORT]),
                               ([], (1, 1)), ([], Odd()), ("", [SHORT]), ([(2, 0)], [SHORT])):
            self.assertIs(shows_unnoticed(BOX, PUT, [SHORT], Noticed(before, behind)), False, (before, behind))
        for value in NO_LISTS + [([0, 1], right), Paper("unnoticed", [0, 1], right), Denial("noticed", [], [SHORT])]:
            self.assertIs(shows_unnoticed(BOX, PUT, [TAKE], value), False)
