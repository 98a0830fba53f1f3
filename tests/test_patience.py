"""Pairs of deals: rings, orders, depths, the fewest pairs that go back, and papers on them."""

import itertools
import random

from fewvisits.check_patience import shows_eased, shows_one_way
from fewvisits.errors import BadNumber, BadPairs, BadValue, Impossible
from fewvisits.papers import Denial, Paper
from fewvisits.patience import Eased, OneWay, Round, by_number, depths, eased, goes_one_way
from tests.naive import NO_INTEGERS, NO_LISTS, Odd, OwnInt, OwnList, plain
from tests.refusing import Refusing

NO_PAIRS = NO_LISTS + [[0], [(0,)], [(0, 1, 2)], [(0, 0)], [(0, 8)], [(-1, 0)], [(0, 1), (0, 1)], [(0, True)], [(0, 1.0)],
                       [(0, None)], [None], ["ab"], [(0, 1), [0, 1]], [(0, Odd())], [Odd()]]
ALL = [(one, other) for one in range(8) for other in range(8) if one != other]


def deals_of(pairs):
    return sorted({deal for pair in pairs for deal in pair})


def back(pairs, order):
    return tuple(sorted(tuple(pair) for pair in pairs if order.index(pair[0]) > order.index(pair[1])))


def rings(pairs, many):
    """All rings of so many deals, each begun at each of its deals."""
    told = {tuple(pair) for pair in pairs}
    return [row for row in itertools.permutations(deals_of(pairs), many)
            if all(pair in told for pair in zip(row, row[1:] + row[:1]))]


def some_pairs(seed, most=6):
    dice = random.Random(seed)
    deals = dice.sample(range(8), most)
    if seed % 4 == 1:
        pairs = [(one, other) for one, other in itertools.permutations(deals, 2) if deals.index(one) < deals.index(other)]
    else:
        pairs = list(itertools.permutations(deals, 2))
    dice.shuffle(pairs)
    pairs = pairs[:dice.choice([0, 1, 3, 5, 7, 9, 14, 30])]
    return [list(pair) for pair in pairs] if seed % 3 == 0 else pairs


def longest_row(pairs, deal):
    return max([0] + [1 + longest_row(pairs, pair[1]) for pair in pairs if pair[0] == deal])


class OneWays(Refusing):

    def test_random(self):
        found = {}
        for seed in range(400):
            pairs = some_pairs(seed)
            paper = goes_one_way(pairs)
            orders = [order for order in itertools.permutations(deals_of(pairs)) if not back(pairs, order)]
            self.assertTrue(plain(paper.parts))
            self.assertTrue(shows_one_way(pairs, paper))
            if orders:
                self.assertEqual(paper, OneWay(orders[0]))
                self.assertEqual(depths(pairs), tuple((deal, longest_row(pairs, deal)) for deal in deals_of(pairs)))
                self.assertTrue(plain(depths(pairs)))
            else:
                lengths = [many for many in range(2, 7) if rings(pairs, many)]
                self.assertEqual(paper, Round(min(rings(pairs, lengths[0]))))
                self.refuses(Impossible(paper), depths, pairs)
            key = len(paper.deals) if not paper else 0
            found[key] = found.get(key, 0) + 1
        self.assertGreater(min(found.get(key, 0) for key in (0, 2, 3, 4)), 1, found)

    def test_eight_deals(self):
        for up in (True, False):
            pairs = by_number(8, up)
            self.assertEqual(len(pairs), 28)
            self.assertEqual(goes_one_way(pairs).order, tuple(range(8)) if up else tuple(range(7, -1, -1)))
            self.assertEqual(depths(pairs), tuple((deal, 7 - deal if up else deal) for deal in range(8)))
            for pair in pairs:
                self.assertEqual(goes_one_way(pairs + (pair[::-1],)), Round(sorted(pair)))
        ring = [(deal, (deal + 1) % 8) for deal in range(8)]
        self.assertEqual(goes_one_way(ring[3:] + ring[:3]), Round(tuple(range(8))))
        self.assertEqual(goes_one_way([(other, one) for one, other in ring]), Round((0,) + tuple(range(7, 0, -1))))
        self.assertEqual(goes_one_way(ALL), Round((0, 1)))
        self.assertEqual(goes_one_way(ring[1:]).order, (1, 2, 3, 4, 5, 6, 7, 0))
        self.assertEqual((goes_one_way(()), depths([])), (OneWay(()), ()))

    def test_by_number(self):
        for many in range(9):
            for up in (True, False):
                wanted = tuple((one, other) for one in range(many) for other in range(many) if one != other and (one < other) == up)
                self.assertEqual(by_number(many=many, is_up=up), wanted)
        for value in NO_INTEGERS + [-1, 9]:
            self.refuses(BadNumber("many"), by_number, value, True)
            self.refuses(BadNumber("many"), by_number, value, None)
        for value in (None, 0, 1, "True", [True], Odd()):
            self.refuses(BadValue("is_up"), by_number, 3, value)

    def test_papers(self):
        self.assertTrue(isinstance(OneWay([1]), Paper) and not isinstance(OneWay([1]), Denial) and isinstance(Round([1]), Denial))
        self.assertEqual((OneWay([1, 2]).word, OneWay([1, 2]).parts, bool(OneWay([]))), ("oneway", ((1, 2),), True))
        self.assertEqual((Round(deals=[1, 2]).word, Round([1, [2]]).deals, bool(Round([]))), ("round", (1, (2,)), False))
        paper = Eased(floors=[0], out=[[1, 2]], order=None)
        self.assertEqual((paper.word, paper.parts, paper.order, paper.out, paper.floors), ("eased", (None, ((1, 2),), (0,)), None, ((1, 2),), (0,)))

    def test_errors(self):
        for value in NO_PAIRS:
            for function in (goes_one_way, depths, eased):
                self.refuses(BadPairs("pairs"), function, value)
            for function in (shows_one_way, shows_eased):
                self.refuses(BadPairs("pairs"), function, value, None)
        self.assertEqual(goes_one_way(pairs=OwnList([[OwnInt(3), 4]])), OneWay([3, 4]))
        self.assertTrue(plain(goes_one_way([[OwnInt(3), 4]]).parts) and plain(depths([[OwnInt(3), 4]])))
        self.assertTrue(plain(eased([[OwnInt(3), 4], (4, OwnInt(3))]).parts))


class EasedPairs(Refusing):

    def test_random(self):
        found = {}
        for seed in range(200):
            pairs = some_pairs(seed, 6 if seed % 5 == 0 else 5)
            paper = eased(pairs)
            self.assertTrue(plain(paper.parts))
            least = min(len(back(pairs, order)) for order in itertools.permutations(deals_of(pairs)))
            self.assertEqual(sorted(paper.order), deals_of(pairs))
            self.assertEqual(paper.out, back(pairs, paper.order))
            self.assertEqual(len(paper.out), least)
            self.floors_hold(pairs, paper)
            self.assertTrue(shows_eased(pairs, paper))
            self.assertEqual(eased([tuple(pair) for pair in pairs]), paper)
            found[least] = found.get(least, 0) + 1
        self.assertGreater(min(found[least] for least in (0, 1, 2, 3)), 3, found)

    def floors_hold(self, pairs, paper):
        deals = deals_of(pairs)
        lots = [tuple(deal for place, deal in enumerate(deals) if number >> place & 1) for number in range(2 ** len(deals))]
        told = dict(zip(lots, paper.floors))
        self.assertEqual((len(paper.floors), told[()], told[tuple(deals)]), (len(lots), 0, len(paper.out)))
        for lot in lots:
            for deal in lot:
                rest = tuple(other for other in lot if other != deal)
                more = len([pair for pair in pairs if pair[0] == deal and pair[1] in rest])
                self.assertTrue(0 <= told[lot] <= told[rest] + more)

    def test_eight_deals(self):
        self.assertEqual((len(eased(ALL).out), len(eased(ALL).floors)), (28, 256))
        self.assertEqual(eased(by_number(8, False)).out, ())
        self.assertEqual((eased([]).parts, shows_eased([], Eased([], [], [0]))), (((), (), (0,)), True))


class Shows(Refusing):

    def test_one_way(self):
        for seed in range(150):
            pairs = some_pairs(seed, 5)
            for order in itertools.permutations(deals_of(pairs)):
                self.assertIs(shows_one_way(pairs, OneWay(list(order))), back(pairs, order) == ())
            for many in range(1, 6):
                all_rings = rings(pairs, many) if many > 1 else []
                for row in itertools.permutations(range(8), many) if many < 4 else all_rings:
                    self.assertIs(shows_one_way(pairs, Round(row)), row in all_rings)
        pairs = [(0, 1), (1, 2), (2, 0), (1, 0)]
        for value in (Round((0,)), Round(()), Round((0, 1, 0, 1)), Round((0, 1, 2, 0)), Round((0, True)), Round((0, 1.0)), Round(None),
                      Round((0, None)), Round((0, [1])), Round("ab"), Round((0, 2)), Round((0, 9)), OneWay((0, 1, 2)), None, (0, 1),
                      Paper("oneway", (0, 1)), Denial("round", (0, 1)), Odd(), Round(Odd()), Round((Odd(), 1))):
            self.assertIs(shows_one_way(pairs, value), False)
        for row in ((0, 1), (1, 0), (0, 1, 2), (1, 2, 0), [2, 0, 1]):
            self.assertIs(shows_one_way(pairs=pairs, value=Round(row)), True)
        for order in (None, (), (0,), (0, 1, 1), (0, 1, 2), (False, 1), (0, 1.0), 3, (0, None), Odd()):
            self.assertIs(shows_one_way([(0, 1)], OneWay(order)), False)
        self.assertIs(shows_one_way([], OneWay(())), True)

    def test_eased(self):
        for seed in range(120):
            dice = random.Random(seed)
            pairs = some_pairs(seed, 4)
            paper = eased(pairs)
            for order in itertools.permutations(deals_of(pairs)):
                wanted = len(back(pairs, order)) == len(paper.out)
                self.assertIs(shows_eased(pairs, Eased(list(order), back(pairs, order), list(paper.floors))), wanted)
            if not paper.order:
                continue
            # Floors may be lower, as long as the last one is what out tells.
            floors = list(paper.floors)
            place = dice.randrange(len(floors))
            for less in (floors[place] - 1, floors[place] + 1):
                told = floors[:place] + [less] + floors[place + 1:]
                self.assertIs(shows_eased(pairs, Eased(paper.order, paper.out, told)), self.is_floor(pairs, paper, told))
            for bent in (floors[:-1], floors + [0], [True] + floors[1:], [0.0] + floors[1:], None, [None] * len(floors), 0, Odd()):
                self.assertIs(shows_eased(pairs, Eased(paper.order, paper.out, bent)), False)
            for bent in (paper.out + ((0, 1),), paper.out[:-1] if paper.out else ((1, 0),), paper.out[::-1] + ((7, 6),), None, 0,
                         [(True, 0)], Odd()):
                self.assertIs(shows_eased(pairs, Eased(paper.order, bent, floors)), False)
            for bent in (paper.order[:-1], paper.order + (0,), None, (), [float(deal) for deal in paper.order], Odd()):
                self.assertIs(shows_eased(pairs, Eased(bent, paper.out, floors)), False)
        for value in (None, ((0,), (), (0,)), Paper("eased", (), (), (0,)), OneWay(()), Odd()):
            self.assertIs(shows_eased([], value), False)
        self.assertIs(shows_eased(value=Eased((1, 0), [[0, 1]], [0, 0, 0, 1]), pairs=[[0, 1], [1, 0]]), True)
        pairs = [(2, 1), (3, 1), (1, 2), (1, 3)]
        self.assertIs(shows_eased(pairs, Eased((1, 2, 3), [(2, 1), (3, 1)], (0, 0, 0, 1, 0, 1, 0, 2))), True)
        self.assertIs(shows_eased(pairs, Eased((1, 2, 3), [(3, 1), (2, 1)], (0, 0, 0, 1, 0, 1, 0, 2))), False)
        self.assertIs(shows_eased(pairs, Eased((1, 2, 3), [(2, 1), (3, 1)], (0, 0, 0, 1, 0, 0, 0, 2))), False)
        self.assertIs(shows_eased(pairs, Eased((1, 2, 3), [(2, 1), (3, 1)], (0, 0, 0, 0, 0, 0, 0, 2))), False)

    def is_floor(self, pairs, paper, floors):
        """Whether numbers are floors, as the fact tells."""
        deals = deals_of(pairs)
        if floors[0] != 0 or floors[-1] != len(paper.out) or min(floors) < 0:
            return False
        for number in range(1, len(floors)):
            for place, deal in enumerate(deals):
                if number >> place & 1:
                    rest = number - 2 ** place
                    more = len([pair for pair in pairs if pair[0] == deal and rest >> deals.index(pair[1]) & 1])
                    if floors[number] > floors[rest] + more:
                        return False
        return True
