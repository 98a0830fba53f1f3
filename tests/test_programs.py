"""Programs: which stand, and their parts."""

from fewvisits.errors import BadPairs, BadProgram
from fewvisits.least_notes import majority
from fewvisits.makers import chest, counter, tickets
from fewvisits.programs import Program
from tests.naive import NO_LISTS, Odd, OwnInt, OwnList, plain
from tests.refusing import Refusing
from tests.test_patience import NO_PAIRS
from tests.test_spreads import BOX, FEW

ONE = majority(BOX, 1)
TWO = majority(counter(1), 2)
FIVE = majority(tickets(2), 5)
HANDS = [[[(0, 0)]], [[(0, 1), (0, 0)]]]


class Programs(Refusing):

    def test_parts(self):
        things = [[FEW, [1, 2, 5]], (TWO, (0, 3))]
        hands = [[[(0, 1)], [[1, 2], (0, 0)]], [], [((1, 1),)]]
        told = Program(things, hands, [[3, 1], (0, 7), (3, 0)])
        self.assertEqual(told.things, ((FEW, (1, 2, 5)), (TWO, (0, 3))))
        self.assertEqual(told.hands, ((((0, 1),), ((1, 2), (0, 0))), (), (((1, 1),),)))
        self.assertEqual((told.pairs, told.owners), (((0, 7), (3, 0), (3, 1)), (0, 0, 2)))
        self.assertEqual(told.deals, (((0, 1),), ((1, 2), (0, 0)), ((1, 1),)))
        # Lists that are changed after the call change nothing.
        hands[0][1][0][0] = 9
        things[0][1].append(4)
        hands.append(7)
        self.assertEqual(told.hands, ((((0, 1),), ((1, 2), (0, 0))), (), (((1, 1),),)))
        self.assertEqual(told.things[0][1], (1, 2, 5))
        self.assertEqual(Program(things=[(ONE, [0])], hands=[[]]).deals, ())
        self.assertEqual(Program(pairs=[(1, 0)], hands=[[]], things=[(ONE, [0])]).pairs, ((1, 0),))

    def test_classes(self):
        told = Program(OwnList([(ONE, OwnList([OwnInt(4)]))]), [[[(OwnInt(0), OwnInt(1))]]], [(OwnInt(1), 0)])
        self.assertTrue(plain((told.things[0][1], told.hands, told.pairs, told.deals, told.owners)))

    def test_equal(self):
        parts = ([(FEW, [0, 1, 2]), (ONE, [3])], HANDS, [(0, 1)])
        same = Program(((FEW, (0, 1, 2)), [ONE, (3,)]), [[[[0, 0]]], [[(0, 1), (0, 0)]]], ((0, 1),))
        self.assertTrue(Program(*parts) == same and not Program(*parts) != same)
        for other in (Program([(FEW, [0, 1, 2]), (ONE, [4])], HANDS, [(0, 1)]), Program(parts[0], HANDS[:1] + [[[(0, 1)]]], [(0, 1)]),
                      Program(parts[0], [HANDS[0] + HANDS[1]], [(0, 1)]), Program(parts[0], HANDS, []), Program(parts[0][:1], HANDS, [(0, 1)]),
                      Program([(majority(BOX, 3), [0, 1, 2]), (ONE, [3])], HANDS, [(0, 1)]), None, parts, FEW):
            self.assertTrue(same != other and not same == other)
        self.assertEqual(Program(parts[0], HANDS, [(1, 0), (0, 1)]), Program(parts[0], HANDS, [(0, 1), (1, 0)]))

    def test_things(self):
        for things in ([(FEW, [0, 1, 2])], [(FIVE, [0, 2, 3, 4, 5])], [(ONE, [k]) for k in range(4)],
                       [(FIVE, [0, 1, 2, 3, 5]), (ONE, [4])], [(TWO, [4, 5]), (TWO, [0, 3]), (TWO, [1, 2])]):
            self.assertEqual(len(Program(things, [[]]).things), len(things))
        for things in NO_LISTS + [[], [(ONE, [k]) for k in range(5)], [None], [ONE], [(ONE,)], [(ONE, [0], [1])], [([0], ONE)],
                                  [(BOX, [0])], [(None, [0])], [(ONE, 0)], [(ONE, [])], [(ONE, [6])], [(ONE, [-1])], [(ONE, [True])],
                                  [(TWO, [1])], [(TWO, [1, 0])], [(TWO, [1, 1])], [(TWO, [0, 1, 2])], [(ONE, [0]), (ONE, [0])],
                                  [(TWO, [0, 1]), (TWO, [1, 2])], [(Odd(), [0])], [(ONE, Odd())], [Odd()]]:
            self.refuses(BadProgram("things"), Program, things, [[]])
            self.refuses(BadProgram("things"), Program, things, None, None)

    def test_hands(self):
        things = [(FEW, [0, 1, 2]), (ONE, [3])]
        deal = [(0, 0)]
        for hands in ([[]], [[]] * 8, [[deal]] * 8, [[deal] * 8], [[deal] * 3, [], [deal] * 5], [[[(1, 1)] * 12]]):
            self.assertEqual(len(Program(things, hands).hands), len(hands))
        for hands in NO_LISTS + [[], [[]] * 9, [[deal] * 9], [[deal] * 4, [deal] * 5], [None], [deal], [[[]]], [[[(0, 0)] * 13]],
                                 [[[(2, 0)]]], [[[(-1, 0)]]], [[[(0, 2)]]], [[[(0, -1)]]], [[[(0, 0, 0)]]], [[[(0,)]]], [[[0]]], [[(0, 0)]],
                                 [[[(False, 0)]]], [[[(0, True)]]], [[[(0, 1.0)]]], [[["ab"]]], [["ab"]], ["ab"], [[[Odd()]]], [[Odd()]], [Odd()],
                                 [[[(0, Odd())]]]]:
            self.refuses(BadProgram("hands"), Program, things, hands)
            self.refuses(BadProgram("hands"), Program, things, hands, None)
        # The asks are those of the thing's kind.
        things = [(majority(chest(4), 1), [0]), (ONE, [1])]
        self.assertEqual(Program(things, [[[(0, 7), (1, 1)]]]).deals, (((0, 7), (1, 1)),))
        for step in ((0, 8), (1, 2)):
            self.refuses(BadProgram("hands"), Program, things, [[[(0, 7), step]]])

    def test_pairs(self):
        for pairs in NO_PAIRS:
            self.refuses(BadPairs("pairs"), Program, [(FEW, [0, 1, 2])], HANDS, pairs)
        # Pairs may be of deals that the program does not have, and may have rings.
        pairs = [(one, other) for one in range(8) for other in range(8) if one != other]
        self.assertEqual(Program([(FEW, [0, 1, 2])], HANDS, pairs[::-1]).pairs, tuple(pairs))
