"""Scripts: which stand, their texts, and reading them."""

import random

from fewvisits.errors import BadScript, BadText
from fewvisits.scripts import is_script, read_script, script_text
from tests.naive import NO_INTEGERS, NO_LISTS, Odd, OwnInt, OwnList, OwnStr, plain
from tests.refusing import Refusing

HAND, SITE, NODE, DEAL, ANY = 7, 5, 6, 7, None
WORDS = {"visit": (HAND, SITE), "decide": (HAND, ANY), "leave": (HAND,), "send": (HAND,), "bring": (ANY,), "lose": (ANY,),
         "twice": (ANY,), "cut": (NODE, ANY), "fuse": (NODE, ANY), "rise": (NODE,), "drop": (SITE, DEAL), "again": (NODE,),
         "quit": (DEAL,)}


def some_step(dice):
    word = dice.choice(list(WORDS))
    return (word,) + tuple(dice.choice([0, dice.randrange(most + 1) if most else dice.randrange(10 ** 12)]) for most in WORDS[word])


class Scripts(Refusing):

    def test_each_step_at_its_bounds(self):
        for word, bounds in WORDS.items():
            right = [word] + [0] * len(bounds)
            self.assertIs(is_script([right]), True)
            for place, most in enumerate(bounds):
                for item in (0, 10 ** 59 if most is None else most):
                    self.assertIs(is_script([tuple(right[:place + 1] + [item] + right[place + 2:])]), True, (word, item))
                for item in [-1] + ([] if most is None else [most + 1]) + NO_INTEGERS:
                    wrong = [right, right[:place + 1] + [item] + right[place + 2:]]
                    self.assertIs(is_script(wrong), False, wrong)
                    self.refuses(BadScript("script"), script_text, wrong)
            for wrong in (right[:-1], right + [0], [], right[1:], ["x"] + right[1:], [word.upper()] + right[1:], None, word, {}):
                self.assertIs(is_script([right, wrong]), False, wrong)

    def test_no_scripts(self):
        for value in NO_LISTS + [[None], [0], ["ab"], [[]], [Odd()], [[Odd()]], [[Odd(), 0]], [("send", Odd())], [(b"send", 0)]]:
            self.assertIs(is_script(value), False)
            self.refuses(BadScript("script"), script_text, value)
        self.assertIs(is_script(value=OwnList([OwnList([OwnStr("send"), OwnInt(3)])])), True)
        self.assertTrue(plain(script_text(script=OwnList([OwnList([OwnStr("send"), OwnInt(3)])]))))

    def test_2000_steps(self):
        self.assertIs(is_script([("send", 0)] * 2000), True)
        self.assertIs(is_script([("send", 0)] * 2001), False)
        text = script_text([["bring", 7]] * 2000)
        self.assertLess(len(text), 20001)
        self.assertEqual(read_script(text), (("bring", 7),) * 2000)
        self.refuses(BadText(5999), read_script, text + " / bring 7")
        self.refuses(BadText(5999), read_script, text + " /")
        self.refuses(BadText(5999), read_script, text + " 7")

    def test_texts(self):
        for seed in range(200):
            dice = random.Random(seed)
            script = tuple(some_step(dice) for _ in range(dice.randrange(9)))
            text = script_text([list(step) for step in script] if seed % 2 else script)
            self.assertEqual(text, " / ".join(" ".join(str(item) for item in step) for step in script))
            self.assertEqual(read_script(text=text), script)
            self.assertTrue(plain(read_script(text)) and plain(text))

    def test_texts_that_cannot_stand(self):
        for text, item in ((" ", 0), ("/", 0), ("Send 0", 0), ("send0", 0), ("send", 1), ("send ", 1), ("send  0", 1), ("send -0", 1),
                           ("send 00", 1), ("send 8", 1), ("send -1", 1), ("send +1", 1), ("send 0 ", 2), ("send 0 0", 2), ("send 0 /", 3),
                           ("send 0 / ", 3), ("send 0 // send 0", 2), ("send 0 / /", 3), ("visit 0", 2), ("visit 0 /", 2), ("visit 0 6", 2),
                           ("cut 7 0", 1), ("cut 6 -1", 2), ("drop 6 0", 1), ("drop 5 8", 2), ("quit 8", 1), ("rise 7", 1), ("again 7", 1),
                           ("fuse 7 1", 1), ("bring x", 1), ("bring 1_0", 1), (" send 0", 0), ("send 0\n", 1), ("send 0 / twice", 4),
                           ("bring " + "9" * 61, 1), ("cut 0 1" + "0" * 60, 2), ("send " + "9" * 60, 1), ("visit 0 " + "1" * 30, 2),
                           ("send 0 / cut 1 5 / quit 9 / x", 8)):
            self.refuses(BadText(item), read_script, text)
        self.assertEqual(read_script("bring " + "9" * 60), (("bring", 10 ** 60 - 1),))
        for value in (None, 7, b"", [""], (), [("send", 0)], Odd()):
            self.refuses(BadText(0), read_script, value)
        self.assertEqual((read_script(""), script_text([]), script_text(())), ((), "", ""))
        self.assertTrue(plain(read_script(OwnStr("send 0"))))

    def test_bent_texts(self):
        for seed in range(300):
            dice = random.Random(seed)
            items = script_text([some_step(dice) for _ in range(dice.randint(1, 5))]).split(" ")
            place = dice.randrange(len(items))
            bent = items[:place] + [dice.choice(["", "x", "-1", "01", "+1", "1.0"])] + items[place + 1:]
            self.refuses(BadText(place), read_script, " ".join(bent))
            cut_off = items[:place]
            text = " ".join(cut_off)
            whole = place < len(items) and items[place] == "/" or not cut_off
            if whole:
                self.assertIsInstance(read_script(text), tuple)
            else:
                self.refuses(BadText(place), read_script, text)
