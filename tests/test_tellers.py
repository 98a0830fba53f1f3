"""The teller: whom it asks, what it decides, and that what it told stays so behind every cut."""

import copy
import itertools
import random

from fewvisits.disks import Disk
from fewvisits.errors import BadLot, BadNumber, BadValue, Misfit
from fewvisits.letters import is_letter
from fewvisits.tellers import Teller, yeses_of
from tests.naive import NO_INTEGERS, NO_LISTS, Odd, OwnInt, OwnList, OwnStr, plain
from tests.naive_disks import meaning
from tests.naive_sites import PlainTeller
from tests.refusing import Refusing


def some_parts(dice):
    sites = sorted(dice.sample(range(6), dice.choice([0, 1, 1, 2, 3, 6])))
    return tuple((site, dice.randint(1, 12), dice.randint(1, 3)) for site in sites)


def some_letter(dice, plainly):
    deal = dice.randrange(6)
    word = dice.choice(["end", "end", "held", "held", "held", "barred", "what", "done", "done"])
    if word == "end":
        life = max(1, plainly.life) if dice.random() < 0.9 else plainly.life + 1
        return (6, 7 + dice.randrange(3), "end", deal, life, some_parts(dice))
    site = dice.randrange(6)
    polls = [told for told in range(6) if plainly.up and plainly.poll(told)]
    if word in ("held", "barred") and polls and dice.random() < 0.8:
        deal = dice.choice(polls)
        left = [part[0] for part in plainly.poll(deal)[1] if part[0] not in plainly.said("held", deal)]
        site = dice.choice(left)
    return (6, site, word, deal)


def yeses_on(blocks):
    return tuple((deal, tuple(site for site in range(6) if told & 2 ** site)) for deal, told in meaning(blocks)[2])


class Tellers(Refusing):

    def is_as(self, teller, plainly):
        self.assertEqual((teller.up, teller.life, teller.asking), (plainly.up, plainly.life, plainly.asking()))
        self.assertEqual(teller.disk.kept(), plainly.disk.kept())
        self.assertEqual([teller.disk.look(at) for at in range(teller.disk.many)], plainly.disk.look())
        self.assertEqual(yeses_of(teller.disk), yeses_on(plainly.disk.kept()))

    def test_random(self):
        found = {}
        for seed in range(500):
            dice = random.Random(seed)
            many = dice.choice([4, 6, 8, 12, 30])
            teller, plainly = Teller(Disk(many)), PlainTeller(6, many)
            told = {}
            for _ in range(dice.choice([20, 60, 150])):
                deed = dice.choice(["take"] * 25 + ["again", "again", "give_up", "cut", "fuse", "rise"])
                if not teller.up:
                    deed = dice.choice(["rise", "rise", "cut", "take", "again", "give_up", "fuse"])
                if deed == "take":
                    letter = some_letter(dice, plainly)
                    sent, wanted = teller.take(list(letter) if dice.random() < 0.3 else letter), plainly.take(letter)
                    for other in sent:
                        found[(letter[2], other[2])] = found.get((letter[2], other[2]), 0) + 1
                elif deed == "give_up":
                    deal = dice.randrange(12)
                    sent, wanted = teller.give_up(deal), plainly.give_up(deal)
                elif deed == "again":
                    sent, wanted = teller.again(), plainly.again()
                elif deed == "cut":
                    numbers = [dice.randrange(3) for _ in range(teller.disk.waiting())]
                    lots = [tuple(k for k, mark in enumerate(numbers) if mark == way) for way in (0, 1)]
                    sent, wanted = teller.cut(*lots), plainly.cut(*lots)
                elif deed == "fuse":
                    plainly.disk.fuse = dice.randint(1, 3)
                    sent, wanted = teller.fuse(plainly.disk.fuse), None
                else:
                    sent, wanted = teller.rise(), plainly.rise()
                self.assertEqual(sent, wanted, deed)
                self.is_as(teller, plainly)
                if isinstance(sent, tuple):
                    self.assertTrue(plain(sent) and all(is_letter(letter) for letter in sent))
                    self.always(teller, sent, told)
        for key, least in ((("end", "hold"), 200), (("end", "told"), 100), (("held", "yes"), 50), (("held", "told"), 30),
                           (("barred", "no"), 50), (("what", "yes"), 20), (("what", "no"), 50), (("held", "no"), 20)):
            self.assertGreater(found.get(key, 0), least, (key, found))

    def always(self, teller, sent, told):
        """A yes that was told stays so, and lies on the disk behind every cut; a no stays so in this life."""
        for letter in sent:
            if letter[2] in ("yes", "no", "told"):
                yes = letter[2] == "yes" or letter[2] == "told" and letter[4] == 1
                key = letter[3] if yes else (letter[3], teller.life)
                told[key] = yes
                self.assertNotIn((letter[3], teller.life) if yes else letter[3], told)
        for lands in ((), range(teller.disk.waiting())):
            other = copy.deepcopy(teller.disk)
            other.cut(list(lands))
            lying = [deal for deal, _ in yeses_of(other)]
            self.assertFalse([deal for deal, yes in told.items() if yes and deal not in lying])

    def test_an_end(self):
        teller = Teller(Disk(16))
        end = (6, 9, "end", 4, 1, [(0, 2, 3), (5, 1, 1)])
        holds = ((0, 6, "hold", 4, 2, 3), (5, 6, "hold", 4, 1, 1))
        self.assertEqual((teller.take(end), teller.take(end), teller.asking), (holds, holds, (4,)))
        # It asks those of the first end, and tells the hand that sent it.
        self.assertEqual(teller.take((6, 7, "end", 4, 9, [(1, 1, 1)])), holds)
        self.assertEqual([teller.take((6, site, word, 4)) for site in (1, 3) for word in ("held", "barred", "done", "what")], [()] * 8)
        self.assertEqual([teller.take((6, 5, "held", 4)) for _ in range(2)], [(), ()])
        self.assertEqual((teller.take((6, 12, "end", 4, 1, ())), teller.again()), (holds[:1], holds[:1]))
        self.assertEqual(teller.take((6, 0, "held", 4)), ((0, 6, "yes", 4), (5, 6, "yes", 4), (9, 6, "told", 4, 1, 1)))
        self.assertEqual((teller.take((6, 12, "end", 4, 7, ())), teller.asking), (((12, 6, "told", 4, 1, 1),), ()))
        for word in ("held", "what"):
            self.assertEqual(teller.take((6, 3, word, 4)), ((3, 6, "yes", 4),))
        self.assertEqual((teller.take((6, 0, "barred", 4)), teller.give_up(4)), ((), ()))
        self.assertEqual((teller.take((6, 3, "done", 4)), teller.again()), ((), ((0, 6, "yes", 4), (5, 6, "yes", 4))))
        self.assertEqual((teller.take((6, 5, "done", 4)), teller.again()), ((), ((0, 6, "yes", 4),)))
        self.assertEqual(yeses_of(teller.disk), ((4, (0, 5)),))
        teller.cut(())
        self.assertEqual((teller.rise(), teller.again()), (True, ((0, 6, "yes", 4), (5, 6, "yes", 4))))

    def test_no(self):
        for way in ("barred", "give_up", "cut", "life", "what", "held"):
            teller = Teller(Disk(16))
            end = (6, 7, "end", 2, 2 if way == "life" else 1, [(1, 1, 1), (2, 1, 1)])
            if way in ("what", "held"):
                self.assertEqual(teller.take((6, 4, way, 2)), ((4, 6, "no", 2),))
                self.assertEqual(teller.take(end), ((7, 6, "told", 2, 0, 1),))
                continue
            sent = teller.take(end)
            if way == "life":
                self.assertEqual(sent, ((7, 6, "told", 2, 0, 1),))
            elif way == "cut":
                teller.cut(())
                self.assertEqual((teller.take(end), teller.rise()), ((), True))
                self.assertEqual(teller.take(end), ((7, 6, "told", 2, 0, 2),))
            else:
                sent = teller.give_up(2) if way == "give_up" else teller.take((6, 2, "barred", 2))
                self.assertEqual(sent, ((1, 6, "no", 2), (2, 6, "no", 2), (7, 6, "told", 2, 0, 1)))
            life = teller.life
            self.assertEqual((teller.take((6, 2, "held", 2)), teller.take((6, 5, "what", 2))), (((2, 6, "no", 2),), ((5, 6, "no", 2),)))
            self.assertEqual((teller.take((6, 2, "barred", 2)), teller.take((6, 2, "done", 2)), teller.again()), ((), (), ()))
            self.assertEqual(teller.take((6, 8, "end", 2, life, ())), ((8, 6, "told", 2, 0, life),))
            self.assertEqual((yeses_of(teller.disk), teller.asking), ((), ()))

    def test_no_room_for_a_yes(self):
        teller = Teller(Disk(4))
        self.assertEqual(teller.take((6, 7, "end", 0, 1, ())), ((7, 6, "told", 0, 1, 1),))
        self.assertEqual(yeses_of(teller.disk), ((0, ()),))
        self.assertEqual(teller.take((6, 7, "end", 1, 1, ())), ((7, 6, "told", 1, 0, 1),))
        teller.take((6, 8, "end", 2, 1, ((3, 1, 1),)))
        self.assertEqual(teller.take((6, 3, "held", 2)), ((3, 6, "no", 2), (8, 6, "told", 2, 0, 1)))
        self.assertEqual((yeses_of(teller.disk), teller.asking), (((0, ()),), ()))

    def test_parts_of_six_sites(self):
        teller = Teller(Disk(8))
        parts = [(site, 12, 10 ** 50) for site in range(6)]
        self.assertEqual(teller.take((6, 14, "end", 11, 1, parts)), tuple((site, 6, "hold", 11, 12, 10 ** 50) for site in range(6)))
        for site in (3, 5, 0, 1, 4):
            self.assertEqual(teller.take((6, site, "held", 11)), ())
        wanted = tuple((site, 6, "yes", 11) for site in range(6))
        self.assertEqual(teller.take((6, 2, "held", 11)), wanted + ((14, 6, "told", 11, 1, 1),))
        self.assertEqual(yeses_of(teller.disk), ((11, (0, 1, 2, 3, 4, 5)),))
        self.assertEqual(teller.again(), wanted)

    def test_fuses_in_a_yes(self):
        for many, lands in itertools.product((1, 2, 3), ((), (0,))):
            teller = Teller(Disk(8))
            teller.take((6, 7, "end", 0, 1, ((1, 1, 1),)))
            teller.fuse(many)
            sent = teller.take((6, 1, "held", 0))
            self.assertEqual((teller.up, sent == (), teller.disk.waiting()), (many > 2, many < 3, 1 if many == 2 else 0))
            if many == 1 and lands or many == 3:
                continue
            self.assertEqual((teller.asking, teller.again(), teller.give_up(0)), ((), (), ()))
            if lands:
                teller.cut(lands)
            # Without a cut it loses what waits as it comes up.
            self.assertEqual((teller.rise(), teller.rise(), teller.life), (True, False, 2))
            self.assertEqual(yeses_of(teller.disk), ((0, (1,)),) if lands else ())
            word = "yes" if lands else "no"
            self.assertEqual(teller.take((6, 1, "what", 0)), ((1, 6, word, 0),))

    def test_fuses_as_it_comes_up(self):
        for many in (1, 2):
            disk = Disk(8)
            disk.fuse(many)
            teller = Teller(disk)
            self.assertEqual((teller.up, teller.life, teller.asking), (False, 0, ()))
            self.assertEqual((teller.rise(), teller.life), (True, 1))
            teller.cut(())
            teller.fuse(many)
            self.assertEqual((teller.rise(), teller.rise(), teller.life), (False, True, 2))

    def test_errors(self):
        for value in (None, 8, Disk, Odd()):
            self.refuses(BadValue("disk"), Teller, value)
            self.refuses(BadValue("disk"), yeses_of, value)
        disk = Disk(8)
        self.assertEqual(yeses_of(disk=disk), ())
        teller = Teller(disk=disk)
        self.assertIs(teller.disk, disk)
        for _ in range(2):
            for value in NO_LISTS + [(0, 6, "yes", 0), (7, 6, "told", 0, 1, 1), (6, 7, "what", 0), (6, 0, "held", 12)]:
                self.refuses(BadValue("letter"), teller.take, value)
            for value in NO_INTEGERS + [-1, 12]:
                self.refuses(BadNumber("deal"), teller.give_up, value)
            for value in NO_INTEGERS + [0]:
                self.refuses(BadNumber("many"), teller.fuse, value)
            self.refuses(BadLot("lands"), teller.cut, [0])
            self.refuses(BadLot("torn"), teller.cut, [], [0])
            teller.cut(torn=(), lands=[])
        teller.rise()
        teller.fuse(2)
        teller.take((6, 7, "end", 0, 2, ()))
        self.refuses(Misfit("torn"), teller.cut, [0], [0])
        self.assertEqual((teller.up, teller.disk.waiting()), (False, 1))

    def test_copies_and_no_classes_of_their_own(self):
        teller = Teller(Disk(8))
        parts = [[OwnInt(1), 1, 1]]
        sent = teller.take(OwnList([6, OwnInt(7), OwnStr("end"), OwnInt(0), 1, parts]))
        parts[0][0] = 4
        parts.append([5, 1, 1])
        self.assertTrue(plain(sent) and plain(teller.asking) and plain(teller.again()))
        self.assertEqual(teller.again(), ((1, 6, "hold", 0, 1, 1),))
        teller.take(letter=[6, 1, "held", OwnInt(0)])
        self.assertTrue(plain(yeses_of(teller.disk)) and plain(teller.disk.kept()) and plain(teller.give_up(deal=OwnInt(3))))
