"""Errors, checks and papers."""

import unittest

from fewvisits import errors
from fewvisits.alike import Alike, Parts
from fewvisits.checks import is_integer, is_just, is_lot, is_within, is_word
from fewvisits.papers import Denial, Paper, fixed
from fewvisits.texts import number_told
from tests.naive import NO_INTEGERS, NO_LISTS, Odd, OwnInt, OwnList, OwnStr

WITH_PART = ["BadNumber", "BadLot", "BadKind", "BadValue", "BadSpread", "BadOrder", "BadLog", "BadPairs",
             "BadProgram", "BadScript", "Misfit"]
FIELDS = {name: ["part"] for name in WITH_PART}
FIELDS.update(BadEvents=["at"], TooMany=["what", "most"], Impossible=["paper"], Full=["what"], Out=[],
              BadText=["item"])


class Errors(unittest.TestCase):

    def test_directly_below_few_error(self):
        self.assertEqual(errors.FewError.__bases__, (ValueError,))
        for name in FIELDS:
            with self.subTest(name=name):
                self.assertEqual(getattr(errors, name).__bases__, (errors.FewError,))

    def test_no_other_errors(self):
        found = {name for name, value in vars(errors).items() if isinstance(value, type)}
        self.assertEqual(found, set(FIELDS) | {"FewError"})

    def test_fields_by_place_and_by_name(self):
        given = [[1, [2]], Odd()]
        for name, fields in FIELDS.items():
            with self.subTest(name=name):
                made = getattr(errors, name)
                values = given[:len(fields)]
                by_place, by_name = made(*values), made(**dict(zip(fields, values)))
                for error in (by_place, by_name):
                    self.assertEqual(sorted(vars(error)), sorted(fields))
                    for field, value in zip(fields, values):
                        self.assertIs(getattr(error, field), value)

    def test_wrong_numbers_of_fields(self):
        for name, fields in FIELDS.items():
            if fields:
                with self.subTest(name=name), self.assertRaises(TypeError):
                    getattr(errors, name)()

    def test_few_error_with_any_values(self):
        errors.FewError()
        errors.FewError(1, [2], Odd())
        with self.assertRaises(ValueError):
            raise errors.FewError("why")


class Checks(unittest.TestCase):

    def test_integers(self):
        for value in (0, -1, 10 ** 80, OwnInt(3)):
            self.assertIs(is_integer(value), True)
        for value in NO_INTEGERS:
            self.assertIs(is_integer(value), False)

    def test_within(self):
        self.assertIs(is_within(3, 3, 3), True)
        self.assertIs(is_within(2, 3, None), False)
        self.assertIs(is_within(4, None, 3), False)
        self.assertIs(is_within(-10 ** 70, None, 0), True)
        self.assertIs(is_within(10 ** 70, 0, None), True)
        self.assertIs(is_within(0, None, None), True)
        self.assertIs(is_within(value=2, least=1, most=3), True)
        for value in NO_INTEGERS:
            self.assertIs(is_within(value, None, None), False)
            self.assertIs(is_within(value, 0, 5), False)

    def test_lots(self):
        for value in ([], (), [0], (0, 1, 2), OwnList([1]), [OwnInt(2)]):
            self.assertIs(is_lot(value, 3), True)
        for value in ([3], [-1], [0, 0], [1, 0], [0, 2, 1], [True], [0, True], [0.0], ["0"], [[0]], [None], [Odd()]):
            self.assertIs(is_lot(value, 3), False)
        for value in NO_LISTS:
            self.assertIs(is_lot(value, 3), False)
        self.assertIs(is_lot([0], 0), False)
        self.assertIs(is_lot([], many=0), True)

    def test_words(self):
        for value in ("a", "z", "0", "9", "7up", "abcdefghijkl", OwnStr("ab")):
            self.assertIs(is_word(value), True)
        for value in ("", "abcdefghijklm", "A", "a_b", "a-b", " a", "a ", "a\n", "\u00e9", "\u0663", "/", b"a",
                      ["a"], ("a", "b"), None, 7, True, Odd()):
            self.assertIs(is_word(value), False)

    def test_numbers_told(self):
        for item, wanted in (("0", 0), ("7", 7), ("-7", -7), ("10", 10), ("9" * 60, 10 ** 60 - 1), ("9" * 61, None),
                             ("-" + "9" * 60, 1 - 10 ** 60), ("-" + "9" * 61, None), ("", None), ("-", None),
                             ("-0", None), ("00", None), ("07", None), ("-07", None), ("+7", None), ("--7", None),
                             ("7-", None), ("1_0", None), (" 7", None), ("7\n", None), ("\u0667", None), ("x", None)):
            self.assertEqual(number_told(item), wanted, item)

    def test_just(self):
        self.assertTrue(is_just(((1, 2), 3), ((1, 2), 3)))
        for value in (((True, 2), 3), ((1.0, 2), 3), ((1, 2),), ((1, 2), 3, 3), [(1, 2), 3], (1, 3), Odd(), None):
            self.assertFalse(is_just(value, ((1, 2), 3)))


class Papers(unittest.TestCase):

    def test_word_and_parts(self):
        given = [1, [2, [3]]]
        paper = Paper("word", given, "x", None)
        given[1][1].append(4)
        given.append(5)
        self.assertEqual(paper.word, "word")
        self.assertEqual(paper.parts, ((1, (2, (3,))), "x", None))
        self.assertEqual(Paper(word="w").parts, ())
        self.assertIs(type(paper.parts), tuple)

    def test_truth(self):
        self.assertIs(bool(Paper("")), True)
        self.assertIs(bool(Denial("", 1, 2)), False)
        self.assertIs(bool(Alike([])), True)
        self.assertIs(bool(Parts([1])), False)

    def test_equality(self):
        self.assertEqual(Paper("a", [1]), Paper("a", (1,)))
        self.assertEqual(Denial("a", [1]), Denial("a", (True,)))
        for other in (Paper("b", [1]), Paper("a", [2]), Paper("a", [1], 2), Denial("a", [1]), "a", None, ("a", (1,))):
            self.assertIs(Paper("a", [1]) == other, False)
            self.assertIs(Paper("a", [1]) != other, True)
        for other in (Denial("b", [1]), Denial("a", [2]), Denial("a", [1], 2), Paper("a", [1]), "a", None, ("a", (1,))):
            self.assertIs(Denial("a", [1]) == other, False)
            self.assertIs(Denial("a", [1]) != other, True)
        self.assertIs(Parts([1]) == Parts([2]), False)
        self.assertIs(Paper("a") != Paper("a"), False)
        for one, other in ((Alike([(0, 0)]), Paper("alike", [(0, 0)])), (Parts([]), Denial("parts", []))):
            self.assertIs(one == other, False)
            self.assertIs(other == one, False)

    def test_classes(self):
        self.assertEqual(Denial.__bases__, (Paper,))
        self.assertEqual(Alike.__bases__, (Paper,))
        self.assertEqual(Parts.__bases__, (Denial,))

    def test_named_papers(self):
        for paper, word, name in ((Alike([[0, 1]]), "alike", "pairs"), (Alike(pairs=[[0, 1]]), "alike", "pairs"),
                                  (Parts([[0, 1]]), "parts", "operations"),
                                  (Parts(operations=[[0, 1]]), "parts", "operations")):
            self.assertEqual((paper.word, paper.parts, getattr(paper, name)), (word, (((0, 1),),), ((0, 1),)))
        odd = Odd()
        self.assertIs(Alike(odd).pairs, odd)
        self.assertIs(Parts(7).operations, 7)

    def test_fixed(self):
        inner = {"a": [1]}
        found = fixed([1, (2, [3, inner]), "x", {4}, b"y", 1.5, None, True])
        self.assertEqual(found, (1, (2, (3, inner)), "x", {4}, b"y", 1.5, None, True))
        self.assertIs(found[1][1][1], inner)
        self.assertIs(found[-1], True)
        self.assertEqual(fixed([]), ())
        self.assertEqual(fixed(7), 7)
        deep = 1
        for _ in range(30):
            deep = [deep]
        self.assertEqual(repr(fixed(deep)).count("("), 30)

    def test_no_classes_of_their_own(self):
        found = fixed(OwnList([OwnInt(3), OwnStr("ab")]))
        self.assertEqual([type(found), type(found[0]), type(found[1])], [tuple, int, str])
        self.assertEqual(found, (3, "ab"))


if __name__ == "__main__":
    unittest.main()
