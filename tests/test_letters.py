"""Letters: which stand, each item at its bounds and just beyond, and their texts."""

from fewvisits.errors import BadValue
from fewvisits.letters import is_letter, letter_text
from tests.naive import NO_INTEGERS, NO_LISTS, Odd, OwnInt, OwnList, OwnStr, plain
from tests.refusing import Refusing

BIG = 10 ** 50
ROWS = [(2, 0, 1, 0, 1), (3, 0, 0, 2, 2)]
# One letter of each form.
LETTERS = {
    "visit": (0, 7, "visit", 3, 1, 2, 1), "note": (5, 14, "note", 3, 1, 2, 1, 0, 2, 4, 1, ROWS),
    "leave": (2, 8, "leave", 0, 0, 0, (4, 7)), "no": (2, 8, "no", 11),
    "shown": (7, 0, "shown", 3, 0, 0, 1, 4, ROWS, [(1, 0, 0, 2), (4, 1, 0, 0)]), "noted": (9, 1, "noted", 3, 4, 1),
    "still": (9, 1, "still", 3, 4, 5, 1), "gone": (9, 1, "gone", 3, 6), "end": (6, 7, "end", 3, 1, [(0, 1, 1), (2, 6, 4)]),
    "told": (7, 6, "told", 3, 1, 1), "hold": (4, 6, "hold", 3, 12, 1), "yes": (4, 6, "yes", 3), "teller's no": (4, 6, "no", 3),
    "held": (6, 0, "held", 3), "barred": (6, 0, "barred", 3), "what": (6, 5, "what", 3), "done": (6, 5, "done", 3),
}
SITE, HAND, TELLER = (0, 5), (7, 14), (6, 6)
DEAL, NUMBER, TRY, LIFE, ASK, ANSWER, BIT = (0, 11), (0, 11), (0, None), (1, None), (0, 7), (0, 11), (0, 1)
# For each place of a letter that holds an integer its least and its greatest.
PLACES = {
    "visit": {0: SITE, 1: HAND, 3: DEAL, 4: NUMBER, 5: TRY, 6: LIFE},
    "note": {0: SITE, 1: HAND, 3: DEAL, 4: NUMBER, 5: TRY, 6: LIFE, 7: ASK, 8: ANSWER, 9: (1, None), 10: BIT},
    "leave": {0: SITE, 1: HAND, 3: DEAL, 4: NUMBER, 5: TRY}, "no": {0: SITE, 3: DEAL},
    "shown": {0: HAND, 1: SITE, 3: DEAL, 4: NUMBER, 5: TRY, 6: LIFE, 7: (0, None)},
    "noted": {0: HAND, 1: SITE, 3: DEAL, 4: NUMBER, 5: LIFE},
    "still": {0: HAND, 1: SITE, 3: DEAL, 4: NUMBER, 5: TRY, 6: LIFE}, "gone": {0: HAND, 1: SITE, 3: DEAL, 4: LIFE},
    "end": {0: TELLER, 1: HAND, 3: DEAL, 4: LIFE}, "told": {0: HAND, 1: TELLER, 3: DEAL, 4: BIT, 5: LIFE},
    "hold": {0: SITE, 1: TELLER, 3: DEAL, 4: (1, 12), 5: LIFE}, "yes": {0: SITE, 1: TELLER, 3: DEAL},
    "teller's no": {0: SITE, 3: DEAL}, "held": {0: TELLER, 1: SITE, 3: DEAL}, "barred": {0: TELLER, 1: SITE, 3: DEAL},
    "what": {0: TELLER, 1: SITE, 3: DEAL}, "done": {0: TELLER, 1: SITE, 3: DEAL},
}
ROLES = {"visit": "hs", "note": "hs", "leave": "hs", "no": "hs ts", "shown": "sh", "noted": "sh", "still": "sh", "gone": "sh",
         "end": "ht", "told": "th", "hold": "ts", "yes": "ts", "held": "st", "barred": "st", "what": "st", "done": "st"}
# Lists of rows at a place, of the name of a letter: those that may stand there, and those that may not.
RIGHT_ROWS = {
    ("note", 11): [[], [(3, 0, 0, 0, 4)], [(11, 11, 7, 11, BIG)], [(3, 0, 0, 0, 1), (3, 2, 0, 0, 1)], [(0, 0, 0, 0, 1)],
                   [(4, 1, 0, 0, 1), (0, 0, 0, 0, 2)], [(0, 1, 0, 0, 2), (1, 0, 0, 0, 2)], [(5, 9, 0, 0, 1), (5, 8, 0, 0, 2)]],
    ("shown", 8): [[], [(3, 0, 0, 0, 4)], [(11, 11, 7, 11, BIG)], [(0, 0, 0, 0, 1), (0, 1, 0, 0, 1), (0, 2, 1, 1, 1)]],
    ("shown", 9): [[], [(0, 0, 0, 0)], [(11, 0, 7, 11)], [(3, 1, 0, 0)], [(1, 0, 0, 0), (1, 0, 0, 1), (1, 0, 1, 0), (2, 1, 0, 0)]],
    ("leave", 6): [(), (0,), (11,), tuple(range(12)), (0, 3)],
    ("end", 5): [(), [(0, 1, 1)], [(5, 12, BIG)], [(site, 1, 1) for site in range(6)]],
}
DO_WRONG = [[(12, 0, 0, 0, 1)], [(-1, 0, 0, 0, 1)], [(0, 12, 0, 0, 1)], [(0, -1, 0, 0, 1)], [(0, 0, 8, 0, 1)], [(0, 0, -1, 0, 1)],
            [(0, 0, 0, 12, 1)], [(0, 0, 0, -1, 1)], [(0, 0, 0, 0, -1)], [(0, 0, 0, 0)], [(0, 0, 0, 0, 1, 1)], [0], [()], [None],
            [(0, 0, 0, 0, 2), (1, 0, 0, 0, 1)], [(1, 0, 0, 0, 2), (0, 1, 0, 0, 2)], [(1, 1, 0, 0, 2), (1, 0, 0, 0, 2)],
            [(1, 1, 0, 0, 2), (1, 1, 0, 0, 2)], [(1, 1, 0, 0, 2), (1, 1, 0, 0, 3)], [(1, 1, 0, 0, 2), (1, 1, 1, 0, 2)],
            [(True, 0, 0, 0, 1)], [(0, 0, 0, 0, True)], [(0, 0, 0, 0, 1.0)], [(0, 0, 0, 0, None)], [(0, 0, 0, 0, Odd())]]
WRONG_ROWS = {
    ("note", 11): DO_WRONG + [[(3, 1, 0, 0, 1)], [(2, 0, 0, 0, 1), (3, 1, 0, 2, 4)], [(0, 0, 0, 0, 0)]], ("shown", 8): DO_WRONG,
    ("shown", 9): [[(12, 0, 0, 0)], [(0, 2, 0, 0)], [(0, 0, 8, 0)], [(0, 0, 0, 12)], [(0, -1, 0, 0)], [(0, 0, 0)], [0], [()],
                   [(0, 1, 1, 0)], [(0, 1, 0, 1)], [(1, 0, 0, 0), (1, 1, 0, 0)], [(1, 1, 0, 0), (1, 1, 0, 0)],
                   [(1, 0, 0, 1), (1, 0, 0, 0)], [(2, 0, 0, 0), (1, 0, 0, 0)], [(1, 0, 0, 0), (1, 0, 0, 0)], [(0, False, 0, 0)]],
    ("leave", 6): [(12,), (-1,), (1, 1), (2, 1), (True,), (1.0,), 0, [None], [[1]]],
    ("end", 5): [[(6, 1, 1)], [(-1, 1, 1)], [(0, 0, 1)], [(0, 13, 1)], [(0, 1, 0)], [(0, 1)], [(0, 1, 1, 1)], [(1, 1, 1), (0, 1, 1)],
                 [(1, 1, 1), (1, 2, 1)], [(0, True, 1)], [0], [()]],
}


def changed(name, place, item):
    letter = list(LETTERS[name])
    letter[place] = item
    return letter


class Letters(Refusing):

    def test_each_form(self):
        for name, letter in LETTERS.items():
            self.assertIs(is_letter(letter), True, name)
            self.assertIs(is_letter(value=list(letter)), True)
            for wrong in (letter[:-1], letter + (0,), letter + ((),), letter[:3], letter[1:], {}, str(letter)):
                self.assertIs(is_letter(wrong), False, wrong)

    def test_each_integer_at_its_bounds(self):
        for name, places in PLACES.items():
            for place, (least, most) in places.items():
                for item in (least, least + 1 if most is None else most, BIG if most is None else least):
                    if not (name == "note" and place in (3, 4)):
                        self.assertIs(is_letter(changed(name, place, item)), True, (name, place, item))
                for item in [least - 1] + ([] if most is None else [most + 1, BIG]) + NO_INTEGERS:
                    wrong = changed(name, place, item)
                    both_noes = name in ("no", "teller's no") and place == 1
                    self.assertIs(is_letter(wrong), both_noes, (name, place, item))

    def test_who_sends_what_to_whom(self):
        nodes = {"s": [0, 5], "t": [6], "h": [7, 14]}
        for name, letter in LETTERS.items():
            word = letter[2]
            for source in "sth":
                for goal in "sth":
                    wanted = source + goal in ROLES[word].split()
                    for one in nodes[source]:
                        for other in nodes[goal]:
                            told = (other, one) + letter[2:]
                            self.assertIs(is_letter(told), wanted, told)
            for node in (-1, 15):
                self.assertIs(is_letter((node,) + letter[1:]), False)
                self.assertIs(is_letter((letter[0], node) + letter[2:]), False)

    def test_words(self):
        for word in NO_INTEGERS + ["", "Visit", "visits", "hello", b"visit", ["visit"], 3]:
            self.assertIs(is_letter((0, 7, word, 3, 0, 0, 1)), False)
            self.assertIs(is_letter((4, 6, word, 3)), False)
        self.assertIs(is_letter((4, 6, OwnStr("yes"), OwnInt(3))), True)

    def test_rows(self):
        for (name, place), lists in RIGHT_ROWS.items():
            for rows in lists:
                self.assertIs(is_letter(changed(name, place, rows)), True, (name, rows))
                self.assertIs(is_letter(changed(name, place, [list(row) if isinstance(row, tuple) else row for row in rows])), True)
        for (name, place), lists in WRONG_ROWS.items():
            for rows in lists + NO_LISTS:
                self.assertIs(is_letter(changed(name, place, rows)), False, (name, place, rows))
                self.refuses(BadValue("letter"), letter_text, changed(name, place, rows))

    def test_no_letters(self):
        for value in NO_LISTS + [[], (), (0,), [Odd()] * 4, [Odd()] * 7, [[]] * 4, (None,) * 12]:
            self.assertIs(is_letter(value), False)
            self.refuses(BadValue("letter"), letter_text, value)

    def test_texts(self):
        wanted = {
            "visit": "0 7 visit 3 1 2 1", "note": "5 14 note 3 1 2 1 0 2 4 1 / 2 0 1 0 1 / 3 0 0 2 2",
            "leave": "2 8 leave 0 0 0 4 7", "no": "2 8 no 11",
            "shown": "7 0 shown 3 0 0 1 4 / 2 0 1 0 1 / 3 0 0 2 2 | 1 0 0 2 | 4 1 0 0", "noted": "9 1 noted 3 4 1",
            "still": "9 1 still 3 4 5 1", "gone": "9 1 gone 3 6", "end": "6 7 end 3 1 / 0 1 1 / 2 6 4",
            "told": "7 6 told 3 1 1", "hold": "4 6 hold 3 12 1", "yes": "4 6 yes 3", "teller's no": "4 6 no 3",
            "held": "6 0 held 3", "barred": "6 0 barred 3", "what": "6 5 what 3", "done": "6 5 done 3"}
        for name, letter in LETTERS.items():
            self.assertEqual(letter_text(letter), wanted[name])
            self.assertEqual(letter_text(letter=list(letter)), wanted[name])
        self.assertEqual(letter_text(changed("leave", 6, [])), "2 8 leave 0 0 0")
        self.assertEqual(letter_text(changed("end", 5, [])), "6 7 end 3 1")
        self.assertEqual(letter_text(changed("note", 11, [])), "5 14 note 3 1 2 1 0 2 4 1")
        self.assertEqual(letter_text(changed("shown", 8, [])), "7 0 shown 3 0 0 1 4 | 1 0 0 2 | 4 1 0 0")
        self.assertEqual(letter_text(changed("shown", 9, [])), "7 0 shown 3 0 0 1 4 / 2 0 1 0 1 / 3 0 0 2 2")
        self.assertEqual(letter_text(changed("visit", 5, BIG)), f"0 7 visit 3 1 {BIG} 1")
        told = letter_text(OwnList([OwnInt(4), 6, OwnStr("yes"), OwnInt(3)]))
        self.assertTrue(plain(told) and told == "4 6 yes 3")

    def test_bent_letters(self):
        for name, letter in LETTERS.items():
            for place in range(len(letter)):
                for item in (None, True, -1, "x", 1.5, {}, [[]], Odd()):
                    self.assertIs(is_letter(changed(name, place, item)), False, (name, place, item))
