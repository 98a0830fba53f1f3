"""Things: their texts, states and answers."""

import random

from fewvisits.errors import BadNumber, BadText, BadValue
from fewvisits.things import Thing
from tests.naive import NO_INTEGERS, NO_LISTS, Odd, OwnInt, OwnList, OwnStr, plain
from tests.naive_things import BARRED, Maker, Plain, bad_condition, bad_thing
from tests.refusing import Refusing

SEATS = "number left 0 2 2 / ask take : when yes answer done set left - left 1 : when yes answer none"
MIXED = "number n -5 7 -2 / line row 3 4 / lot kept 2 / ask go : when yes answer ok"
ITEMS = BARRED.split() + ["/", ":", "+", "-", "<", "=", "n", "left", "row", "kept", "0", "1", "2", "-1", "8", "9", "10",
                          "", "x", "a", "go", "999", "1000", "-0", "01", "+1", "abcdefghijkl", "abcdefghijklm", "A"]


def bent(seed, text):
    """A text with an item or two taken out, put in or exchanged."""
    dice = random.Random(seed)
    items = text.split(" ")
    for _ in range(dice.choice([1, 1, 2])):
        place = dice.randrange(len(items) + 1)
        new = [dice.choice(ITEMS)]
        deed = dice.randrange(3)
        if deed == 0:
            items[place:place + 1] = []
        elif deed == 1:
            items[place:place] = new
        else:
            items[place:place + 1] = new
    return " ".join(items)


def deep(word, many, last):
    """So many words, one behind another, and behind them the last items."""
    return " ".join([word] * many + [last])


class Texts(Refusing):

    def reads(self, text):
        for thing in (Thing(text), Thing.read(text), Thing(text=text), Thing.read(text=text)):
            self.assertEqual(str(thing), text)
            self.assertIs(type(str(thing)), str)

    def refuses_text(self, item, text):
        self.refuses(BadText(item), Thing, text)
        self.refuses(BadText(item), Thing.read, text)

    def test_random(self):
        found = [0, 0]
        for seed in range(400):
            text = Maker(seed).text()
            self.assertIsNone(bad_thing(text))
            self.reads(text)
            for more in range(12):
                other = bent(1000 * seed + more, text)
                wanted = bad_thing(other)
                found[wanted is None] += 1
                with self.subTest(text=other):
                    if wanted is None:
                        self.reads(other)
                    else:
                        self.refuses_text(wanted, other)
        self.assertGreater(min(found), 100)

    def test_ends_early(self):
        for seed in range(30):
            items = Maker(seed).text().split(" ")
            for many in range(len(items)):
                text = " ".join(items[:many])
                if many and bad_thing(text) is None:
                    self.reads(text)
                else:
                    self.refuses_text(0 if many == 0 else many, text)

    def test_no_strings(self):
        for value in (None, 1, True, SEATS.encode(), SEATS.split(" "), Odd(), Thing(SEATS), [], Thing):
            self.refuses_text(0, value)
        self.refuses_text(0, "")
        self.refuses_text(0, " " + SEATS)
        self.refuses_text(len(SEATS.split(" ")), SEATS + " ")
        self.refuses_text(0, "\n" + SEATS)
        self.refuses_text(1, "ask  go : when yes answer ok")

    def test_own_strings(self):
        thing = Thing(OwnStr(SEATS))
        self.assertIs(type(str(thing)), str)
        self.assertTrue(plain((thing.fields, thing.asks, thing.first, thing.given((2,), 0))))
        self.assertEqual(thing, Thing(SEATS))

    def test_fields(self):
        ask = "ask go : when yes answer ok"
        words = ["a", "b2", "abcdefghijkl", "x0", "fields", "state"]
        six = "".join(f"lot {word} 9 / " for word in words)
        self.assertEqual(Thing(six + ask).fields, tuple(words))
        self.assertEqual(Thing(ask).fields, ())
        self.assertEqual(Thing(ask).first, ())
        self.refuses_text(24, six + "lot y 9 / " + ask)
        self.refuses_text(24, six + "line y 1 9 / " + ask)
        for name in BARRED.split() + ["2a", "", "A", "abcdefghijklm", "a-", "0", "/"]:
            self.refuses_text(1, f"lot {name} 2 / {ask}")
        for first, second in (("lot a 1", "number a 0 0 0"), ("number a 0 0 0", "line a 1 1"), ("line a 1 1", "lot a 1")):
            self.refuses_text(len(first.split(" ")) + 2, f"{first} / {second} / {ask}")
        for rest, wanted in (("-999 999 -999", None), ("999 999 999", None), ("-1000 0 0", 2), ("0 1000 0", 3),
                             ("1 0 0", 3), ("0 2 3", 4), ("0 2 -1", 4), ("-0 2 1", 2), ("00 2 1", 2), ("0 2", 4),
                             ("+0 2 1", 2), ("a 2 1", 2), ("0 2 1 1", 5)):
            text = f"number a {rest} / {ask}"
            self.assertEqual(bad_thing(text), wanted)
            if wanted is None:
                self.reads(text)
            else:
                self.refuses_text(wanted, text)
        for room, items, wanted in (("1", "1", None), ("8", "9", None), ("0", "1", 2), ("9", "1", 2), ("1", "0", 3),
                                    ("8", "10", 3), ("08", "1", 2)):
            text = f"line a {room} {items} / {ask}"
            if wanted is None:
                self.reads(text)
            else:
                self.refuses_text(wanted, text)
        for items in ("0", "10", "-1", "x"):
            self.refuses_text(2, f"lot a {items} / {ask}")

    def test_asks(self):
        case = " : when yes answer ok"
        for word in BARRED.split() + ["0", "07", "abcdefghijkl"]:
            self.assertEqual(Thing("ask " + word + case).asks, (word,))
        self.assertEqual(Thing("ask abcdefghijk 0 7" + case).asks, tuple(f"abcdefghijk{k}" for k in range(8)))
        self.assertEqual(Thing("ask a 3 3" + case).asks, ("a3",))
        for head, wanted in (("ask a 8 8", 2), ("ask a -1 0", 2), ("ask a 1 0", 3), ("ask a 0 8", 3), ("ask a 0", 3),
                             ("ask a x", 2), ("ask abcdefghijklm", 1), ("ask a 0 1 2", 4), ("ask", 1)):
            self.refuses_text(wanted, head + case)
        eight = " / ".join(f"ask a{k}" + case for k in range(8))
        self.assertEqual(len(Thing(eight).asks), 8)
        for text in (eight + " / ask b" + case, "ask a 0 7" + case + " / ask b" + case, "ask abcdefghijkl 0 0" + case,
                     "ask a 0 1" + case + " / ask a1" + case, "ask a" + case + " / ask a" + case):
            self.refuses_text(len(text.split(" ")) - 1, text)
            self.refuses_text(len(text.split(" ")) + 1, text + " /")
            self.refuses_text(len(text.split(" ")), text + " x")
        self.reads("ask a1" + case + " / ask a 2 3" + case)
        self.refuses_text(8, "ask a" + case + " / lot b 2 / ask c" + case)

    def test_cases(self):
        for case, wanted in (("when yes answer ok", None), ("may yes answer 7", None), ("pick 0 8 yes answer ok one", None),
                             ("pick 8 8 yes answer ok", None), ("pick 0 9 yes answer ok", 5), ("pick 9 9 yes answer ok", 4),
                             ("pick 2 1 yes answer ok", 5), ("pick yes answer ok", 4), ("yes answer ok", 3),
                             ("when answer ok", 4), ("when yes ok", 5), ("when yes answer", 6), ("when yes answer Ok", 6),
                             ("when yes answer abcdefghijkl 0", None), ("when yes answer ok ok", 7),
                             ("when yes answer ok one", 7), ("when yes answer ok it", 7), ("when < one 1 answer ok", 5),
                             ("when yes answer ok 1 1", 8), ("when yes answer ok 1000", 7), ("when yes answer ok -999", None),
                             ("may yes answer set", None), ("when yes answer ok set", 8), ("when yes yes answer ok", 5)):
            text = "ask a : " + case
            self.assertEqual(bad_thing(text), wanted)
            if wanted is None:
                self.reads(text)
            else:
                self.refuses_text(wanted, text)

    def test_deeds(self):
        head = "number n 0 3 0 / line row 2 2 / lot kept 2 / ask a : when yes answer ok"
        start = len(head.split(" "))
        self.reads(head + " set n 1" * 8)
        self.refuses_text(start + 24, head + " set n 1" * 9)
        self.reads(head + " shift row" * 8)
        self.refuses_text(start + 16, head + " shift row" * 8 + " pop row")
        self.reads(head + " n" + " pop row" * 8)
        for deed, wanted in (("set n 1", None), ("push row 1", None), ("shift row", None), ("pop row", None), ("put kept 1", None),
                             ("drop kept 1", None), ("set row 1", 1), ("set kept 1", 1), ("push n 1", 1), ("push kept 1", 1),
                             ("shift kept", 1), ("pop n", 1), ("put row 1", 1), ("drop n 1", 1), ("set m 1", 1),
                             ("set n", 2), ("shift row 1", 2), ("set n row", 2), ("set n it", 2), ("set n one", 2),
                             ("put kept size row", None), ("push row front row", None), ("push row front kept", 3),
                             ("set n size n", 3)):
            text = head + " " + deed
            if wanted is None:
                self.reads(text)
            else:
                self.refuses_text(start + wanted, text)

    def test_depth(self):
        for word, last, many in (("not", "yes", 11), ("and yes", "yes", 11), ("not", "< 1 1", 10), ("or yes", "= 1 1", 10),
                                 ("not", "has row 1", 10)):
            for more in (0, 1):
                text = "line row 1 2 / ask a : when " + deep(word, many + more, last) + " answer ok"
                wanted = bad_thing(text)
                self.assertEqual(wanted is None, more == 0)
                if more:
                    self.refuses_text(wanted, text)
                else:
                    self.reads(text)
        thing = Thing("ask a : when yes answer ok")
        self.assertIs(thing.is_so(deep("not", 11, "yes"), ()), False)
        self.refuses(BadText(12), thing.is_so, deep("not", 12, "yes"), ())
        self.refuses(BadText(12), thing.is_so, deep("not", 12, "hm"), ())
        self.refuses(BadText(12), thing.is_so, deep("not", 11, "not"), ())
        self.assertIs(thing.is_so("= 12 " + deep("+ 1", 10, "2"), ()), True)
        self.refuses(BadText(23), thing.is_so, "= 13 " + deep("+ 1", 11, "2"), ())
        self.refuses(BadText(5), thing.is_so, "= + 1 2 3 4", ())
        # A value of an answer or of a deed stands in nothing else.
        for place in ("answer n ", "answer ok set n "):
            self.reads("number n 0 99 0 / ask a : when yes " + place + deep("+ 1", 11, "2"))
            text = "number n 0 99 0 / ask a : when yes " + place + deep("+ 1", 12, "2")
            self.refuses_text(len(text.split(" ")) - 2, text)


class States(Refusing):

    def test_is_state(self):
        thing = Thing(MIXED)
        self.assertEqual((thing.fields, thing.first), (("n", "row", "kept"), (-2, (), ())))
        for value in ((-5, (), ()), [7, [3, 3, 0], [0, 1]], (OwnInt(0), OwnList([1]), (1,)), (0, (), [0])):
            self.assertIs(thing.is_state(value), True)
            self.assertIs(thing.is_state(value=value), True)
        for value in ((-6, (), ()), (8, (), ()), (0, (4,), ()), (0, (-1,), ()), (0, (0, 0, 0, 0), ()), (0, (), (2,)),
                      (0, (), (1, 0)), (0, (), (0, 0)), (0, ()), (0, (), (), ()), (), (True, (), ()), (0, (True,), ()),
                      (0, (), (False, 1)), (0.0, (), ()), (0, "", ()), (0, (), None), (0, 0, ()), (None, (), ()),
                      (0, {}, ()), (0, (Odd(),), ()), (Odd(), Odd(), Odd()), (0, (), {0})):
            self.assertIs(thing.is_state(value), False, value)
        for value in NO_LISTS + NO_INTEGERS[:-3]:
            self.assertIs(thing.is_state(value), False)
        bare = Thing("ask a : when yes answer ok")
        self.assertIs(bare.is_state(()), True)
        self.assertIs(bare.is_state([]), True)
        self.assertIs(bare.is_state([()]), False)

    def test_equality(self):
        thing = Thing(SEATS)
        self.assertEqual(thing, Thing.read(SEATS))
        self.assertIs(thing != Thing(SEATS), False)
        for other in (Thing(SEATS.replace("none", "gone")), Thing(MIXED), SEATS, None, Odd):
            self.assertIs(thing == other, False)
            self.assertIs(thing != other, True)


class Answers(Refusing):

    def test_random(self):
        found = {}
        for seed in range(700):
            text = Maker(seed).text()
            thing, told = Thing(text), Plain(text)
            self.assertEqual(thing.first, told.first())
            self.assertEqual(thing.asks, tuple(ask[0] for ask in told.asks))
            states = [thing.first]
            for state in states:
                for number in range(len(thing.asks)):
                    given = thing.given(state, number)
                    self.assertEqual(given, tuple(told.given(state, number)), (text, state, number))
                    self.assertTrue(plain(given))
                    found[len(given)] = found.get(len(given), 0) + 1
                    for _, behind in given:
                        self.assertIs(thing.is_state(behind), True)
                        if behind not in states and len(states) < 12:
                            states.append(behind)
        self.assertGreater(min(found[many] for many in (0, 1, 2, 3)), 60)

    def test_random_conditions(self):
        found = [0, 0, 0]
        for seed in range(500):
            maker = Maker(seed)
            text = maker.text()
            thing, told = Thing(text), Plain(text)
            states = [thing.first] + [behind for number in range(len(thing.asks))
                                      for _, behind in thing.given(thing.first, number)]
            for _ in range(4):
                condition = maker.condition(1, [])
                for state in states[:5]:
                    wanted = told.so(condition.split(" "), state)
                    found[wanted] += 1
                    self.assertIs(thing.is_so(condition, state), wanted)
                    self.assertIs(thing.is_so(state=list(state), condition=condition), wanted)
                other = bent(seed, condition)
                wrong = bad_condition(other, maker.fields)
                if wrong is not None:
                    found[2] += 1
                    self.refuses(BadText(wrong), thing.is_so, other, thing.first)
                    self.refuses(BadText(wrong), thing.is_so, other, None)
        self.assertGreater(min(found), 300)

    def test_kinds_of_cases(self):
        thing = Thing("ask a : may yes answer x : may yes answer y : when not yes answer z : when yes answer w : may yes answer v")
        self.assertEqual(thing.given((), 0), (("x", ()), ("y", ()), ("w", ())))
        # What is given a second time does not count, but a when that holds ends the looking all the same.
        thing = Thing("number n 0 9 0 / ask a : may yes answer x set n 1 : when yes answer x set n 2 : may yes answer y")
        self.assertEqual(thing.given((0,), 0), (("x", (1,)),))
        thing = Thing("number n 0 9 0 / ask a : pick 2 4 yes answer x - 4 one set n one : pick 0 8 < one 2 answer y set n one")
        self.assertEqual(thing.given((0,), 0), (("x2", (2,)), ("x1", (3,)), ("x0", (4,)), ("y", (0,))))

    def test_not_there(self):
        head = "number n 0 3 1 / line row 2 2 / lot kept 2 / ask a : "
        for case in ("when = front row 0 answer x", "when not = front row 0 answer x", "when or yes = back row 0 answer x",
                     "when yes answer x front row", "when yes answer x + 1 back row", "when yes answer x set n front row",
                     "when has kept front row answer x", "when not has kept - front row 1 answer x",
                     "when yes answer x push row 1 set n 1 put kept 2", "when yes answer x shift row",
                     "when yes answer x pop row push row 1", "when yes answer x push row 2", "when yes answer x push row -1",
                     "when yes answer x drop kept 2", "when yes answer x set n 4", "when yes answer x set n -1",
                     "when yes answer x push row 0 push row 0 push row 0", "when yes answer x - 0 n",
                     "when yes answer abcdefghijkl n", "when and yes not yes answer x", "when yes answer x -1",
                     "when yes answer x set n 4 set n 1"):
            thing = Thing(head + case + " : when yes answer else")
            self.assertEqual(thing.given((1, (), ()), 0), (("else", (1, (), ())),), case)
        for case, wanted in (("when yes answer x drop kept 1", ("x", (1, (), ()))),
                             ("when yes answer x put kept 1 put kept 0 put kept 1", ("x", (1, (), (0, 1)))),
                             ("when yes answer x push row 1 set n front row", ("x", (1, (1,), ()))),
                             ("when yes answer x n set n 3", ("x1", (3, (), ()))),
                             ("when yes answer abcdefghijk n", ("abcdefghijk1", (1, (), ()))),
                             ("when yes answer x push row 1 push row 0 shift row", ("x", (1, (0,), ()))),
                             ("when yes answer x push row 1 push row 0 pop row", ("x", (1, (1,), ()))),
                             ("when yes answer x set n + n 1 set n + n 1", ("x", (3, (), ()))),
                             ("when not has kept 7 answer x + 999 + 999 999", ("x2997", (1, (), ()))),
                             ("when yes answer x 10", ("x10", (1, (), ()))),
                             ("when < -1 0 answer x size row", ("x0", (1, (), ())))):
            thing = Thing(head + case + " : when yes answer else")
            self.assertEqual(thing.given([1, [], []], 0), (wanted,), case)

    def test_both_ends_of_a_line(self):
        thing = Thing("line row 3 4 / ask a : when yes answer f front row : when yes answer no / ask b : when yes answer b back row : when "
                      "yes answer no / ask c : when yes answer ok shift row / ask d : when yes answer ok pop row / "
                      "ask e : when yes answer n size row push row 0 : when yes answer full")
        for row, front, back, shifted, popped in (((1, 2, 3), 1, 3, (2, 3), (1, 2)), ((2, 0), 2, 0, (0,), (2,)), ((3,), 3, 3, (), ())):
            self.assertEqual(thing.given((row,), 0), ((f"f{front}", (row,)),))
            self.assertEqual(thing.given((row,), 1), ((f"b{back}", (row,)),))
            self.assertEqual(thing.given((row,), 2), (("ok", (shifted,)),))
            self.assertEqual(thing.given((row,), 3), (("ok", (popped,)),))
            pushed = ("full", (row,)) if len(row) == 3 else (f"n{len(row)}", (row + (0,),))
            self.assertEqual(thing.given((row,), 4), (pushed,))
            self.assertIs(thing.is_so(f"and = front row {front} = back row {back}", (row,)), True)
            self.assertIs(thing.is_so("= + front row 1 + 1 back row", (row,)), front == back)
        for number, given in enumerate(("no", "no", None, None, "n0")):
            told = thing.given(((),), number)
            self.assertEqual([answer for answer, _ in told], [given] if given else [])

    def test_errors(self):
        thing = Thing(MIXED)
        for value in (None, (0, (), (), ()), (True, (), ()), (9, (), ()), Odd(), "", 0):
            self.refuses(BadValue("state"), thing.given, value, 0)
            self.refuses(BadValue("state"), thing.given, value, 7)
            self.refuses(BadValue("state"), thing.is_so, "yes", value)
            self.refuses(BadText(0), thing.is_so, "no", value)
        for ask in NO_INTEGERS + [1, -1]:
            self.refuses(BadNumber("ask"), thing.given, (0, (), ()), ask)
        self.assertEqual(thing.given(ask=0, state=(0, (), ())), (("ok", (0, (), ())),))
        for condition, wanted in ((None, 0), (1, 0), (b"yes", 0), ("", 0), ("yes yes", 1), ("yes ", 1), ("not", 1),
                                  ("< 1", 2), ("< it 1", 1), ("< one 1", 1), ("= row 1", 1), ("has n 1", 1), ("< m 1", 1),
                                  ("and yes", 2), ("has row", 2), ("= front kept 1", 2), ("< 1 1 /", 3), (Odd(), 0)):
            self.refuses(BadText(wanted), thing.is_so, condition, (0, (), ()))

    def test_copies(self):
        thing = Thing(MIXED)
        state = [0, [1], [0]]
        given = thing.given(state, 0)
        state[1].append(2)
        self.assertEqual(given, (("ok", (0, (1,), (0,))),))
        self.assertTrue(plain(thing.given((OwnInt(0), OwnList([OwnInt(1)]), ()), OwnInt(0))))
