"""Spreads, their numbers, and who may miss what."""

from fewvisits.errors import BadKind, BadNumber, BadSpread, Misfit
from fewvisits.kinds import Kind, operations_of
from fewvisits.spreads import Spread, going, missing, notes_of, visits_of
from tests.naive import NO_INTEGERS, NO_LISTS, Odd, OwnInt, OwnList, plain, random_kind
from tests.naive_pairs import all_operations
from tests.naive_spreads import may_miss, some_spread
from tests.refusing import Refusing

BOX = Kind(["put", "take"], ["ok", "short"], 2, 0, [(0, 0, 0, 1), (0, 1, 1, 0), (1, 0, 0, 1), (1, 1, 0, 0)])
ROWS = [(0, 0, 1, 1), (1, 0, 3, 1), (1, 1, 3, 0)]
FEW = Spread(BOX, 3, ROWS)


class Spreads(Refusing):

    def test_random(self):
        for seed in range(80):
            kind = random_kind(seed)
            spread = some_spread(seed, kind)
            for row in spread.rows:
                self.assertEqual(visits_of(spread, row[0], row[1]), row[2])
                self.assertEqual(notes_of(spread, ask=row[0], answer=row[1]), row[3])
                told = missing(spread, row[0], row[1])
                self.assertEqual(told, tuple(may_miss(spread, row[:2])))
                self.assertTrue(plain(told))
            for up in range(spread.sites + 1):
                self.assertEqual(going(spread, up), tuple(row[:2] for row in spread.rows if row[2] <= up))
            for ask, answer in all_operations(kind):
                if (ask, answer) not in operations_of(kind):
                    for function in (visits_of, notes_of, missing):
                        self.refuses(Misfit("operation"), function, spread, ask, answer)

    def test_bounds(self):
        for sites in range(1, 6):
            spread = Spread(BOX, sites, [(0, 0, 1, 0), (1, 0, sites, sites), (1, 1, sites, 0)])
            self.assertEqual((spread.kind, spread.sites), (BOX, sites))
            self.assertEqual(missing(spread, 1, 0), ())
            self.assertEqual(missing(spread, 1, 1), operations_of(BOX))
            for rows in ([(0, 0, 0, 0)], [(0, 0, sites + 1, 0)], [(0, 0, 1, 2)], [(0, 0, 1, -1)]):
                self.refuses(BadSpread("rows"), Spread, BOX, sites, rows + [(1, 0, 1, 0), (1, 1, 1, 0)])
        for sites in NO_INTEGERS + [0, 6, -1]:
            self.refuses(BadNumber("sites"), Spread, BOX, sites, ROWS)
            self.refuses(BadNumber("sites"), Spread, BOX, sites, None)

    def test_rows(self):
        for rows in NO_LISTS + [[], ROWS[:2], ROWS[1:], ROWS + ROWS[:1], [ROWS[1], ROWS[0], ROWS[2]], ROWS + [(1, 2, 1, 1)],
                                [ROWS[0], (0, 1, 1, 1)] + ROWS[1:], [ROWS[0], ROWS[0], ROWS[1]]]:
            self.refuses(BadSpread("rows"), Spread, BOX, 3, rows)
        for row in NO_LISTS + [(), (0, 0, 1), (0, 0, 1, 1, 1), (False, 0, 1, 1), (0, False, 1, 1), (0, 0, True, 1), (0, 0, 1, True),
                               (0, 0, 1.0, 1), (0.0, 0, 1, 1), (0, 0, 1, None), (0, 0, Odd(), 1), (Odd(), 0, 1, 1), (0, 1, 1, 1)]:
            self.refuses(BadSpread("rows"), Spread, BOX, 3, [row] + ROWS[1:])
        self.assertEqual(Spread(BOX, 3, [list(row) for row in ROWS]), FEW)
        self.assertEqual(Spread(rows=tuple(ROWS), sites=3, kind=BOX), FEW)

    def test_copies_and_equality(self):
        rows = [list(row) for row in ROWS]
        spread = Spread(BOX, 3, rows)
        rows[0][2] = 3
        rows.append([])
        self.assertEqual(spread, FEW)
        self.assertEqual(visits_of(spread, 0, 0), 1)
        self.assertIs(spread != FEW, False)
        other_box = Kind(["put", "get"], BOX.answers, 2, 0, BOX.rows)
        for other in (Spread(BOX, 4, ROWS), Spread(BOX, 3, [(0, 0, 1, 0)] + ROWS[1:]), Spread(other_box, 3, ROWS), BOX, None, 3, Odd):
            self.assertIs(FEW == other, False)
            self.assertIs(FEW != other, True)
        own = Spread(BOX, OwnInt(3), OwnList([OwnList([OwnInt(number) for number in row]) for row in ROWS]))
        self.assertTrue(plain((own.rows, own.sites, going(own, OwnInt(2)), missing(own, OwnInt(0), OwnInt(0)))))
        self.assertEqual(own, FEW)

    def test_errors(self):
        for value in (None, BOX, ROWS, Spread, Odd()):
            for function in (visits_of, notes_of, missing):
                self.refuses(BadSpread("spread"), function, value, None, None)
            self.refuses(BadSpread("spread"), going, value, None)
        for value in (None, str(BOX), Kind, FEW, Odd()):
            self.refuses(BadKind("kind"), Spread, value, 0, None)
        for value in NO_INTEGERS + [-1, 2]:
            for function in (visits_of, notes_of, missing):
                self.refuses(BadNumber("ask"), function, FEW, value, None)
                self.refuses(BadNumber("answer"), function, FEW, 0, value)
        for value in NO_INTEGERS + [-1, 4]:
            self.refuses(BadNumber("up"), going, FEW, value)
        for function in (visits_of, notes_of, missing):
            self.refuses(Misfit("operation"), function, FEW, 0, 1)
        self.assertEqual((going(FEW, 0), going(up=3, spread=FEW)), ((), operations_of(BOX)))
