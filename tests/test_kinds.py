"""Kinds and their texts."""

import unittest

from fewvisits.errors import BadKind, BadText
from fewvisits.kinds import Kind, is_sure, operations_of
from fewvisits.makers import bag, chest, line, purse
from tests.naive import NO_INTEGERS, NO_LISTS, Odd, OwnInt, OwnList, OwnStr, plain, random_kind

BOX = (["put", "take"], ["ok", "short"], 2, 0, [(0, 0, 0, 1), (0, 1, 1, 0), (1, 0, 0, 1), (1, 1, 0, 0)])
TEXT = "asks put take / answers ok short / states 2 first 0 / 0 0 0 1 / 0 1 1 0 / 1 0 0 1 / 1 1 0 0"
WORDS = [f"w{k}" for k in range(20)]


def wide(asks, answers, states, many):
    """The parts of a kind with so many asks, answers and states, and just so many rows."""
    rows = [(state, ask, 0, 0) for state in range(states) for ask in range(asks)]
    more = [(state, ask, answer, 0) for state in range(states) for ask in range(asks) for answer in range(1, answers)]
    return WORDS[:asks], WORDS[:answers], states, 0, sorted(rows + more[:many - len(rows)])


class Made(unittest.TestCase):

    def refuses(self, part, *given):
        with self.assertRaises(BadKind) as caught:
            Kind(*given)
        self.assertEqual(caught.exception.part, part)

    def bent(self, place, value):
        given = list(BOX)
        given[place] = value
        return given

    def test_attributes(self):
        box = Kind(*BOX)
        self.assertEqual((box.asks, box.answers, box.states, box.first), (("put", "take"), ("ok", "short"), 2, 0))
        self.assertEqual(box.rows, tuple(BOX[4]))
        named = Kind(rows=BOX[4], first=0, states=2, answers=BOX[1], asks=BOX[0])
        self.assertEqual(named, box)

    def test_copies(self):
        asks, answers, rows = ["put"], ["ok"], [[0, 0, 0, 0]]
        kind = Kind(asks, answers, 1, 0, rows)
        asks.append("x")
        answers[0] = "y"
        rows[0][3] = 5
        rows.append(1)
        self.assertEqual((kind.asks, kind.answers, kind.rows), (("put",), ("ok",), ((0, 0, 0, 0),)))
        self.assertEqual(str(kind), "asks put / answers ok / states 1 first 0 / 0 0 0 0")

    def test_no_classes_of_their_own(self):
        kind = Kind(OwnList([OwnStr("put")]), (OwnStr("ok"),), OwnInt(1), OwnInt(0), OwnList([OwnList([OwnInt(0)] * 4)]))
        self.assertTrue(plain((kind.asks, kind.answers, kind.states, kind.first, kind.rows)))
        self.assertEqual(kind, Kind(["put"], ["ok"], 1, 0, [(0, 0, 0, 0)]))

    def test_bounds(self):
        for given in (wide(8, 1, 60, 480), wide(8, 12, 60, 600), wide(1, 12, 60, 600), wide(1, 1, 1, 1)):
            kind = Kind(*given)
            self.assertEqual(len(kind.rows), len(given[4]))
            self.assertEqual(Kind.read(str(kind)), kind)
        self.refuses("asks", *wide(9, 1, 2, 18))
        self.refuses("answers", *wide(1, 13, 2, 26))
        self.refuses("states", *wide(1, 1, 61, 61))
        self.refuses("rows", *wide(8, 12, 60, 601))
        self.refuses("first", *self.bent(3, 2))
        self.refuses("first", *self.bent(3, -1))
        Kind(*self.bent(3, 1))

    def test_bad_words(self):
        for place, part in ((0, "asks"), (1, "answers")):
            for value in NO_LISTS + [[], ["a", "a"], ["a", ""], ["A", "b"], ["a" * 13, "b"], ["a", 7], ["a", ["b"]],
                                     [True, "a"], ["a", Odd()], ["a", "b c"]]:
                self.refuses(part, *self.bent(place, value))
        Kind(["a" * 12, "b"], *BOX[1:])

    def test_bad_numbers(self):
        for place, part in ((2, "states"), (3, "first")):
            for value in NO_INTEGERS + [-1, 10 ** 59]:
                self.refuses(part, *self.bent(place, value))
        self.refuses("states", *self.bent(2, 0))

    def test_bad_rows(self):
        good = BOX[4]
        for value in NO_LISTS + [[], good[:3], good[1:], good + good[3:], good[::-1], good + [(2, 0, 0, 0)],
                                 good[:1] + [(0, 0, 0, 0)] + good[1:]]:
            self.refuses("rows", *self.bent(4, value))
        for row in (NO_LISTS + [(0, 0, 0), (0, 0, 0, 1, 0), (0, 0, 0, 2), (0, 0, 0, -1), (0, 0, 2, 0), (0, -1, 0, 0),
                                (0, 0, 0, True), (False, 0, 0, 1), (0, 0, 0, 1.0), (0, 0, 0, None)]):
            self.refuses("rows", *self.bent(4, [row] + good[1:]))
        self.refuses("rows", ["a", "b"], ["x"], 2, 0, [(0, 0, 0, 0), (0, 1, 0, 0), (1, 1, 0, 0)])

    def test_first_fault_first(self):
        bad = [[], [], 0, -1, []]
        parts = ["asks", "answers", "states", "first", "rows"]
        for k in range(5):
            self.refuses(parts[k], *(list(BOX[:k]) + bad[k:]))

    def test_equality(self):
        box = Kind(*BOX)
        self.assertEqual(box, Kind(*BOX))
        self.assertIs(box != Kind(*BOX), False)
        for place, value in ((0, ["put", "get"]), (1, ["ok", "no"]), (3, 1),
                             (4, [(0, 0, 0, 0)] + BOX[4][1:])):
            self.assertIs(box == Kind(*self.bent(place, value)), False)
            self.assertIs(box != Kind(*self.bent(place, value)), True)
        self.assertIs(Kind(["a"], ["b"], 1, 0, [(0, 0, 0, 0)])
                      == Kind(["a"], ["b"], 2, 0, [(0, 0, 0, 0), (1, 0, 0, 0)]), False)
        for other in (None, 1, str(box), BOX, Odd):
            self.assertIs(box == other, False)


class Texts(unittest.TestCase):

    def refuses(self, item, text):
        with self.assertRaises(BadText) as caught:
            Kind.read(text)
        self.assertEqual(caught.exception.item, item, text)

    def changed(self, text, place, *items):
        told = text.split(" ")
        return " ".join(told[:place] + list(items) + told[place + 1:])

    def test_text(self):
        self.assertEqual(str(Kind(*BOX)), TEXT)
        self.assertEqual(Kind.read(TEXT), Kind(*BOX))
        self.assertEqual(Kind.read(OwnStr(TEXT)), Kind(*BOX))
        self.assertTrue(plain(Kind.read(OwnStr(TEXT)).asks))

    def test_there_and_back(self):
        kinds = [random_kind(seed) for seed in range(60)] + [line(3, 3), bag(5, 3), chest(4), purse(8, 3)]
        for kind in kinds:
            self.assertEqual(Kind.read(str(kind)), kind)
            self.assertEqual(str(Kind.read(str(kind))), str(kind))

    def test_no_strings(self):
        for value in (None, 1, True, TEXT.encode(), TEXT.split(" "), Odd()):
            self.refuses(0, value)

    def test_text_that_ends_early(self):
        told = TEXT.split(" ")
        for many in range(len(told)):
            text = " ".join(told[:many])
            if many == 0:
                self.refuses(0, "")
            elif many < 12 or (many - 12) % 5:
                self.refuses(many, text)
            else:
                # All rows told are whole, but some state has no row: only the whole shows it.
                self.refuses(many - 1, text)

    def test_an_item_more(self):
        # (place, item, wanted): the item is put in ahead of the one with this place.
        cases = [(0, "x", 0), (1, "put", 2), (1, "/", 1), (4, "/", 4), (8, "/", 8), (9, "states", 9), (10, "2", 10),
                 (11, "first", 11), (12, "0", 12), (13, "/", 13), (13, "0", 17), (17, "0", 17), (32, "0", 32),
                 (32, "/", 33)]
        for place, item, wanted in cases:
            told = TEXT.split(" ")
            self.refuses(wanted, " ".join(told[:place] + [item] + told[place:]))

    def test_an_item_less(self):
        # Without the bar behind them, what follows is taken for asks, up to the next bar.
        cases = [(0, 0), (3, 7), (4, 4), (7, 12), (8, 8), (9, 9), (10, 10), (11, 11), (12, 12), (13, 16), (31, 31)]
        for place, wanted in cases:
            told = TEXT.split(" ")
            self.refuses(wanted, " ".join(told[:place] + told[place + 1:]))
        # One ask less: the rows show it at the first one of that ask.
        self.refuses(18, "asks put / answers ok short / states 2 first 0 / 0 0 0 1 / 0 1 1 0 / 1 0 0 1 / 1 1 0 0")

    def test_wrong_items(self):
        cases = [(0, "ask", 0), (1, "/", 1), (1, "Put", 1), (1, "", 1), (2, "put", 2), (1, "a" * 13, 1), (3, "x", 8),
                 (4, "answer", 4), (5, "/", 5), (6, "ok", 6), (7, "x", 13), (8, "state", 8), (9, "0", 9), (9, "61", 9),
                 (9, "02", 9), (9, "+2", 9), (9, "-2", 9), (9, "\u0662", 9), (9, "2 ", 10), (9, "", 9), (9, "x", 9),
                 (9, "1" * 61, 9), (9, "1" * 5000, 9), (10, "1", 10), (11, "2", 11), (11, "-0", 11), (11, "-1", 11), (11, "00", 11),
                 (12, "|", 12), (13, "2", 13), (14, "2", 14), (15, "2", 15), (16, "2", 16), (16, "0.", 16),
                 (31, "0\n", 31), (31, "-1", 31)]
        self.assertEqual(len(TEXT.split(" ")), 32)
        for place, item, wanted in cases:
            self.refuses(wanted, self.changed(TEXT, place, item))

    def test_blanks(self):
        self.refuses(0, " " + TEXT)
        self.refuses(32, TEXT + " ")
        self.refuses(2, TEXT.replace("put take", "put  take"))
        self.refuses(12, TEXT.replace("first 0 /", "first 0  /"))

    def test_too_many_words(self):
        rest = " / answers x / states 1 first 0"
        self.refuses(9, "asks " + " ".join(WORDS[:9]) + rest)
        self.refuses(1 + 8 + 2 + 12, "asks " + " ".join(WORDS[:8]) + " / answers " + " ".join(WORDS[:13]) + " / states")
        self.refuses(9, "asks " + " ".join(WORDS[:8]))
        self.refuses(9, "asks " + " ".join(WORDS[:8]) + " w0")

    def test_too_many_rows(self):
        asks, answers, states, first, rows = wide(8, 12, 60, 600)
        text = str(Kind(asks, answers, states, first, rows))
        self.refuses(len(text.split(" ")), text + " / 59 7 11 0")
        self.refuses(len(text.split(" ")), text + " /")
        self.refuses(len(text.split(" ")), text + " x")

    def test_only_the_whole(self):
        start = "asks put take / answers ok short / states 2 first 0"
        rows = [" / 0 0 0 1", " / 0 1 1 0", " / 1 0 0 1", " / 1 1 0 0"]
        last = len((start + "".join(rows)).split(" ")) - 1
        self.refuses(last, start + "".join(rows[::-1]))
        self.refuses(last - 5, start + "".join(rows[:3]))
        self.refuses(last - 5, start + "".join(rows[1:]))
        self.refuses(last + 5, start + "".join(rows + rows[3:]))
        self.refuses(last + 5, start + "".join(rows + [" / 1 1 0 1"]))
        self.refuses(last - 20, start)

    def test_sure_and_operations(self):
        box = Kind(*BOX)
        self.assertIs(is_sure(box), True)
        self.assertEqual(operations_of(box), ((0, 0), (1, 0), (1, 1)))
        self.assertIs(is_sure(bag(2, 2)), False)
        for seed in range(40):
            kind = random_kind(seed)
            self.assertEqual(operations_of(kind), tuple(sorted({row[1:3] for row in kind.rows})))
            cells = [row[:2] for row in kind.rows]
            self.assertIs(is_sure(kind), len(cells) == len(set(cells)))
        for function in (is_sure, operations_of):
            for value in (None, BOX, str(box), Kind, True, Odd()):
                with self.assertRaises(BadKind) as caught:
                    function(value)
                self.assertEqual(caught.exception.part, "kind")
        self.assertIs(is_sure(kind=box), True)


if __name__ == "__main__":
    unittest.main()
