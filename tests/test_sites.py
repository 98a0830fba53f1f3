"""Sites: what they send, keep and lose, wherever plugs are pulled."""

import random
import unittest

from fewvisits.disks import Disk
from fewvisits.errors import BadLot, BadNumber, BadValue, Misfit
from fewvisits.journals import Journal
from fewvisits.letters import is_letter
from fewvisits.sites import Site, lies_on
from tests.naive import NO_INTEGERS, NO_LISTS, Odd, OwnInt, OwnList, OwnStr, plain
from tests.naive_disks import meaning
from tests.naive_sites import PlainSite, kept_rows
from tests.refusing import Refusing


def shows(site):
    """All that a site tells of itself."""
    return (site.lying, site.marks, site.lock, site.date, site.working, site.holding, site.past)


def lies_plainly(blocks):
    """The rows, the ready and the ended deals that lie on blocks."""
    records = meaning(blocks)[2]
    words = [divmod(record[0], 8) for record in records]
    ready = [deal for deal in range(12) if (deal, 2) in words and (deal, 3) not in words and (deal, 4) not in words]
    ended = [deal for deal in range(12) if (deal, 3) in words]
    return (tuple(do for do, _ in kept_rows(records)), tuple(ready), tuple(ended))


def some_do(dice):
    return (dice.randrange(5), dice.randrange(3), dice.randrange(2), dice.randrange(2), dice.randint(1, 9))


def some_dos(dice, barred):
    """Some rows of a letter, none with this deal and number."""
    found = {do[:2]: do for do in [some_do(dice) for _ in range(dice.choice([0, 0, 1, 2, 4]))]}
    found.pop(barred, None)
    return tuple(sorted(found.values(), key=lambda do: (do[4], do[0], do[1])))


def some_letter(dice, plainly):
    """Some letter to a site, mostly one that the site may take as it is now."""
    number, life = plainly.node, max(1, plainly.life)
    hand, deal = 7 + dice.randrange(2), dice.randrange(5)
    place = (dice.randrange(3), dice.randrange(3))
    word = dice.choice(["visit", "visit", "visit", "note", "note", "note", "leave", "hold", "hold", "yes", "no", "hand no"])
    if plainly.up and plainly.locked is not None and word in ("note", "leave") and dice.random() < 0.8:
        deal, place = plainly.locked[0], plainly.locked[1:]
    lots = plainly.shows()[4:6]
    if word in ("hold", "yes") and lots[word == "yes"] and dice.random() < 0.7:
        deal = dice.choice(lots[word == "yes"])
    if dice.random() < 0.05:
        life = dice.choice([1, life + 1])
    if word == "visit":
        return (number, hand, word, deal) + place + (life,)
    if word == "note":
        do = (deal, place[0]) + some_do(dice)[2:]
        told = (1, some_dos(dice, do[:2])) if dice.random() < 0.7 else (0, ())
        return (number, hand, word, deal) + place + (life,) + do[2:] + told
    if word == "leave":
        others = tuple(sorted(dice.sample(range(5), dice.choice([0, 0, 1, 3]))))
        return (number, hand, word, deal) + place + (others,)
    if word == "hold":
        many = len([mark for mark in plainly.marked() if mark[0] == deal]) if plainly.up else 1
        return (number, 6, word, deal, max(1, many + dice.choice([0, 0, 0, 1])), life)
    return (number, hand if word == "hand no" else 6, word.split()[-1], deal)


class Sites(Refusing):

    def is_as(self, site, plainly):
        self.assertEqual(shows(site), plainly.shows())
        self.assertEqual((site.up, site.life), (plainly.up, plainly.life))
        self.assertEqual(site.disk.kept(), plainly.disk.kept())
        self.assertEqual([site.disk.look(at) for at in range(site.disk.many)], plainly.disk.look())
        self.assertEqual(lies_on(site.disk), lies_plainly(plainly.disk.kept()))
        self.assertTrue(plain(shows(site)))

    def deed(self, dice, site, plainly, found):
        """Does something to both; they send and tell the same."""
        deed = dice.choice(["take"] * 30 + ["again", "drop", "cut", "cut", "fuse", "rise", "news"])
        if not site.up:
            deed = dice.choice(["rise", "rise", "cut", "take", "again", "drop", "fuse"])
        if deed == "take":
            letter = some_letter(dice, plainly)
            self.assertTrue(is_letter(letter))
            sent, wanted = site.take(list(letter) if dice.random() < 0.3 else letter), plainly.take(letter)
            key = (letter[2], letter[1] == 6, tuple(sorted({told[2] for told in sent})))
            found[key] = found.get(key, 0) + 1
        elif deed == "drop":
            deal = dice.randrange(6)
            sent, wanted = site.drop(deal), plainly.drop(deal)
        elif deed == "again":
            sent, wanted = site.again(), plainly.again()
        elif deed == "cut":
            numbers = [dice.randrange(3) for _ in range(site.disk.waiting())]
            lots = [tuple(k for k, told in enumerate(numbers) if told == mark) for mark in (0, 1)]
            sent, wanted = site.cut(*lots), plainly.cut(*lots)
        elif deed == "fuse":
            many = dice.randint(1, 4)
            plainly.disk.fuse = many
            sent, wanted = site.fuse(many), None
        elif deed == "rise":
            sent, wanted = site.rise(), plainly.rise()
        else:
            sent, wanted = site.news(), plainly.news()
        self.assertEqual(sent, wanted, deed)
        if deed != "cut" and deed != "fuse" and deed != "rise":
            self.assertTrue(plain(sent))
        if deed in ("take", "drop", "again"):
            self.assertTrue(all(is_letter(told) for told in sent))

    def test_random(self):
        found, words = {}, {}
        for seed in range(700):
            dice = random.Random(seed)
            number, many = dice.randrange(6), dice.choice([8, 12, 12, 18, 30, 60])
            site, plainly = Site(number, Disk(many)), PlainSite(number, many)
            for _ in range(dice.choice([20, 60, 120])):
                self.deed(dice, site, plainly, found)
                self.is_as(site, plainly)
                if dice.random() < 0.1:
                    told = site.news()
                    self.assertEqual(told, plainly.news())
                    self.assertTrue(plain(told))
                    for event in told:
                        words[event[0]] = words.get(event[0], 0) + 1
        for key in (("visit", False, ("shown",)), ("visit", False, ("gone",)), ("visit", False, ()),
                    ("note", False, ("noted",)), ("note", False, ("gone",)), ("leave", False, ("gone",)),
                    ("leave", False, ()), ("hold", True, ("held",)), ("hold", True, ("barred",)), ("hold", True, ()),
                    ("yes", True, ("done",)), ("no", True, ()), ("no", False, ())):
            self.assertGreater(found.get(key, 0), 15, key)
        self.assertGreater(min(words[word] for word in ("mark", "ready", "yes", "no")), 40, words)

    def do_all(self, site, letters):
        """Takes letters; what the last one sends."""
        sent = ()
        for letter in letters:
            sent = site.take(letter)
        return sent

    def noted(self, number=0, noted=1, many=16, rows=()):
        """A site with a do of deal 0."""
        site = Site(number, Disk(many))
        self.do_all(site, [(number, 7, "visit", 0, 0, 0, 1), (number, 7, "note", 0, 0, 0, 1, 0, 0, 3, noted, rows)])
        return site

    def test_a_note_sent_twice_and_late(self):
        site = self.noted()
        note = (0, 7, "note", 0, 0, 0, 1, 0, 0, 3, 1, ())
        self.assertEqual(site.take(note), ((7, 0, "noted", 0, 0, 1),))
        self.assertEqual(site.marks, ((0, 0, 0, 0),))
        # A note of another try of this step is told the same; one of another life, or of another step, is gone.
        self.assertEqual(site.take((0, 7, "note", 0, 0, 5, 1, 1, 1, 9, 1, ())), ((7, 0, "noted", 0, 0, 1),))
        self.assertEqual(site.take((0, 7, "note", 0, 0, 0, 2, 0, 0, 3, 1, ())), ((7, 0, "gone", 0, 1),))
        self.assertEqual(site.take((0, 7, "note", 0, 1, 0, 1, 0, 0, 3, 1, ())), ((7, 0, "gone", 0, 1),))
        self.assertEqual((site.marks, site.date, site.news()), (((0, 0, 0, 0),), 3, (("mark", 0, 0),)))

    def test_a_note_behind_a_leave_and_behind_a_cut(self):
        for many in (1, 2):
            site = Site(2, Disk(16))
            note = (2, 7, "note", 0, 0, 0, many, 0, 0, 3, 1, ())
            site.take((2, 7, "visit", 0, 0, 0, 1))
            if many == 1:
                site.take((2, 7, "leave", 0, 0, 0, ()))
            else:
                site.cut(())
                self.assertEqual(site.take(note), ())
                site.rise()
            self.assertEqual(site.take(note), ((7, 2, "gone", 0, many),))
            self.assertEqual((site.marks, site.lying, site.working, site.news()), ((), (), (), ()))
            self.assertEqual(site.take((2, 7, "visit", 0, 0, 0, many)) == (), many == 1)

    def test_tries(self):
        site = Site(0, Disk(16))
        self.assertEqual(len(site.take((0, 7, "visit", 0, 1, 2, 1))), 1)
        for place in ((0, 9), (1, 1)):
            self.assertEqual(site.take((0, 7, "visit", 0) + place + (1,)), ())
            self.assertEqual(site.take((0, 7, "leave", 0) + place + ((),)), ())
            self.assertEqual(site.lock, (0, 1, 2))
        self.assertEqual(len(site.take((0, 7, "visit", 0, 1, 2, 1))), 1)
        self.assertEqual(len(site.take((0, 7, "visit", 0, 1, 3, 1))), 1)
        self.assertEqual((site.lock, site.take((0, 8, "visit", 1, 0, 0, 1))), ((0, 1, 3), ()))
        # A leave of a later try unlocks, and pushes nobody.
        site.take((0, 7, "leave", 0, 2, 0, (0, 1, 2)))
        self.assertEqual((site.lock, site.working, site.news()), (None, (), ()))
        self.assertEqual(site.take((0, 7, "visit", 0, 2, 0, 1)), ())
        self.assertEqual(len(site.take((0, 7, "visit", 0, 2, 1, 1))), 1)
        big = 10 ** 50
        site.take((0, 7, "leave", 0, 2, big, ()))
        self.assertEqual(site.take((0, 7, "visit", 0, 2, big, 1)), ())
        self.assertEqual(site.take((0, 7, "visit", 0, 2, big + 1, 1))[0][5], big + 1)

    def test_marks_that_are_shown(self):
        site = Site(0, Disk(40))
        for deal, number, noted in ((3, 0, 1), (3, 1, 0), (3, 2, 1), (1, 4, 1), (5, 0, 1)):
            site.take((0, 8, "visit", deal, number, 0, 1))
            site.take((0, 8, "note", deal, number, 0, 1, 1 if number == 1 else 0, 2, 4 + number, noted, ()))
        site.take((0, 6, "hold", 5, 1, 1))
        wanted = ((1, 0, 0, 2), (3, 0, 0, 2), (3, 0, 1, 2), (5, 1, 0, 0))
        self.assertEqual(site.take((0, 7, "visit", 2, 0, 0, 1)), ((7, 0, "shown", 2, 0, 0, 1, 8, (), wanted),))
        site.take((0, 7, "leave", 2, 0, 0, ()))
        own = site.take((0, 9, "visit", 3, 3, 0, 1))
        self.assertEqual(own, ((9, 0, "shown", 3, 3, 0, 1, 8, (), ((1, 0, 0, 2), (5, 1, 0, 0))),))
        self.assertEqual(site.again(), ((6, 0, "what", 5), (8, 0, "still", 1, 4, 0, 1), (9, 0, "still", 3, 3, 0, 1)))
        # Whom a leave pushes is told at the hand of the last note; who is ready, or not at work, is not pushed.
        self.assertEqual(site.take((0, 9, "leave", 3, 3, 0, (1, 3, 4, 5))), ((8, 0, "gone", 1, 1),))
        self.assertEqual((site.working, site.holding, site.marks[:3]), ((3,), (5,), ((3, 0, 0, 2), (3, 1, 1, 2), (3, 2, 0, 2))))

    def test_rows_that_are_shown(self):
        site = Site(0, Disk(40))
        site.take((0, 7, "visit", 2, 3, 0, 1))
        rows = ((4, 0, 0, 0, 1), (9, 0, 0, 0, 5), (1, 2, 0, 0, 6), (2, 1, 0, 0, 7))
        site.take((0, 7, "note", 2, 3, 0, 1, 1, 1, 7, 1, rows))
        self.assertEqual(site.lying, rows + ((2, 3, 1, 1, 7),))
        self.assertEqual(site.take((0, 7, "visit", 0, 0, 0, 1))[0][8], rows[:3])
        self.do_all(site, [(0, 7, "leave", 0, 0, 0, ()), (0, 6, "hold", 2, 1, 1), (0, 6, "yes", 2)])
        self.assertEqual(site.take((0, 7, "visit", 0, 0, 1, 1))[0][8:], (rows + ((2, 3, 1, 1, 7),), ()))
        # What lies here is not put anew, whatever it tells; what is brought may be of a lesser date.
        site.take((0, 7, "note", 0, 0, 1, 1, 0, 0, 9, 1, ((3, 0, 0, 0, 1), (9, 0, 1, 1, 8))))
        self.assertEqual(site.lying, rows + ((2, 3, 1, 1, 7), (3, 0, 0, 0, 1), (0, 0, 0, 0, 9)))

    def test_a_hold(self):
        for letter, wanted in (((0, 6, "hold", 0, 1, 1), "held"), ((0, 6, "hold", 0, 2, 1), "barred"),
                               ((0, 6, "hold", 0, 1, 2), "barred"), ((0, 6, "hold", 4, 1, 1), "barred")):
            site = self.noted()
            self.assertEqual(site.take(letter), ((6, 0, wanted, letter[3]),))
            self.assertEqual(site.holding, (0,) if wanted == "held" else ())
            self.assertEqual(site.working, (0,) if letter[3] == 4 else ())
            events = site.news()
            self.assertEqual(events[1:], {"held": (("ready", 0),), "barred": (("no", 0),)}[wanted] if letter[3] == 0 else ())
        site = self.noted()
        for deal in (0, 1):
            site.take((0, 8, "visit", deal, 3, 3, 1))
            self.assertEqual((site.lock is None, site.take((0, 6, "hold", 0, 1, 1))), (False, ()))
            site.take((0, 8, "leave", deal, 3, 3, ()))
        for _ in range(2):
            self.assertEqual(site.take((0, 6, "hold", 0, 1, 1)), ((6, 0, "held", 0),))
        self.assertEqual(site.take((0, 6, "hold", 0, 7, 9)), ((6, 0, "held", 0),))
        # A ready deal is not called off but by the teller.
        self.assertEqual(site.take((0, 7, "no", 0)) + site.drop(0), ())
        self.assertEqual((site.holding, site.take((0, 7, "visit", 0, 9, 0, 1))), ((0,), ()))
        self.assertEqual(site.take((0, 6, "no", 0)), ())
        self.assertEqual((site.holding, site.lying, site.marks, site.take((0, 7, "visit", 0, 9, 0, 1))),
                         ((), (), (), ((7, 0, "gone", 0, 1),)))
        self.assertEqual(site.take((0, 6, "yes", 0)), ((6, 0, "done", 0),))
        self.assertEqual(site.past, ())

    def test_a_no_of_a_deal_that_never_was_here(self):
        for node in (6, 9):
            site = Site(0, Disk(16))
            self.assertEqual((site.take((0, node, "no", 4)), site.news()), ((), ()))
            self.assertEqual(site.take((0, 8, "visit", 4, 0, 0, 1)), ((8, 0, "gone", 4, 1),))
            site.cut(())
            site.rise()
            self.assertEqual(site.take((0, 8, "visit", 4, 0, 0, 2))[0][2], "shown")

    def test_room(self):
        # Twelve blocks are room for five records.
        rows = ((4, 0, 0, 0, 1), (5, 0, 0, 0, 1))
        for more, wanted in (((), "noted"), (((6, 0, 0, 0, 1), (7, 0, 0, 0, 1)), "noted"),
                             (((6, 0, 0, 0, 1), (7, 0, 0, 0, 1), (8, 0, 0, 0, 1)), "gone")):
            site = Site(0, Disk(12))
            site.take((0, 7, "visit", 0, 0, 0, 1))
            self.assertEqual(site.take((0, 7, "note", 0, 0, 0, 1, 0, 0, 3, 1, rows + more))[0][2], wanted)
            self.assertEqual(len(site.lying), 0 if wanted == "gone" else 3 + len(more))
            self.assertEqual(site.take((0, 6, "hold", 0, 1, 1))[0][2], "held" if more == () else "barred")
            self.assertEqual(site.take((0, 7, "visit", 0, 1, 0, 1)) == (), more == ())
        # One more record is kept free for each ready deal; a note that is not to be kept needs none.
        site = self.noted(many=12)
        self.assertEqual(site.take((0, 6, "hold", 0, 1, 1))[0][2], "held")
        for deal, rows in ((1, ()), (2, ())):
            site.take((0, 8, "visit", deal, 0, 0, 1))
            told = site.take((0, 8, "note", deal, 0, 0, 1, 0, 0, 4, 1, rows))[0][2]
            self.assertEqual(told, "noted")
        for deal, noted, wanted in ((3, 1, "gone"), (4, 0, "noted")):
            site.take((0, 8, "visit", deal, 0, 0, 1))
            self.assertEqual(site.take((0, 8, "note", deal, 0, 0, 1, 0, 0, 5, noted, ()))[0][2], wanted)
        self.assertEqual(site.take((0, 6, "hold", 4, 1, 1)), ((6, 0, "barred", 4),))
        self.assertEqual(site.take((0, 6, "yes", 0)), ((6, 0, "done", 0),))
        self.assertEqual((site.past, site.holding), ((0,), ()))

    def test_fuses_at_each_letter_that_writes(self):
        """What is told, and what lies behind any cut, of a note with two rows, a hold, a yes and a no."""
        rows = ((4, 0, 0, 0, 1), (5, 0, 0, 0, 2))
        note = (0, 7, "note", 0, 1, 0, 1, 0, 0, 3, 1, rows)
        for letters, writes, lies in (((note,), 3, rows), ((note, (0, 6, "hold", 0, 1, 1)), 2, None),
                                      ((note, (0, 6, "hold", 0, 1, 1), (0, 6, "yes", 0)), 2, None),
                                      ((note, (0, 6, "hold", 0, 1, 1), (0, 6, "no", 0)), 1, None)):
            for many in range(1, writes + 2):
                for lands in range(2 ** 5):
                    site = Site(0, Disk(16))
                    site.take((0, 7, "visit", 0, 1, 0, 1))
                    self.do_all(site, letters[:-1])
                    ahead = lies_on(site.disk)
                    site.news()
                    site.fuse(many)
                    sent = site.take(letters[-1])
                    self.assertEqual(site.up, many > writes)
                    self.assertEqual(sent == (), many <= writes or letters[-1][2] == "no")
                    self.assertEqual(site.news() == (), many <= writes)
                    waiting = site.disk.waiting()
                    if lands >= 2 ** waiting:
                        continue
                    landed = [k for k in range(waiting) if lands >> k & 1]
                    torn = [k for k in range(waiting) if not lands >> k & 1] if lands % 3 else []
                    site.cut(landed, torn)
                    told = lies_on(site.disk)
                    first = letters[-1][2]
                    if first == "note":
                        kept = 0
                        while kept < min(waiting, 2) and lands >> kept & 1:
                            kept += 1
                        self.assertEqual(told, (rows[:kept], (), ()))
                    elif first == "hold":
                        whole = many > writes or many == 2 and len(landed) == waiting
                        self.assertIn(told, ((rows + ((0, 1, 0, 0, 3),), (0,), ()), ahead, (rows[:1], (), ()), (rows, (), ()),
                                             ((), (), ())))
                        self.assertEqual(told[1] == (0,), whole)
                    else:
                        self.assertEqual(told[0], rows if told[1:] == ((), ()) else rows + ((0, 1, 0, 0, 3),))
                        ended = many > writes or landed == [0]
                        if first == "no":
                            ended = landed == [0]
                            self.assertEqual(told[1:], ((), ()) if ended else ((0,), ()))
                        else:
                            self.assertEqual(told[1:], ((), (0,)) if ended else ((0,), ()))
                    self.assertEqual(site.rise(), True)
                    self.assertEqual((site.lying, site.holding, site.past, site.life), told + (2,))

    def test_coming_up_twice_and_fuses_there(self):
        site = self.noted()
        site.take((0, 6, "hold", 0, 1, 1))
        for many in (1, 2):
            self.assertEqual((site.rise(), site.life), (False, 1))
            site.cut(())
            site.fuse(many)
            self.assertEqual((site.rise(), site.up, site.life, shows(site)), (False, False, 1, ((), (), None, 0, (), (), ())))
            self.assertEqual((site.take((0, 6, "hold", 0, 1, 1)), site.drop(0), site.again()), ((), (), ()))
            self.assertEqual((site.rise(), site.life), (True, 2))
            self.assertEqual((site.lying, site.holding, site.date), (((0, 0, 0, 0, 3),), (0,), 3))
            site = self.noted()
            site.take((0, 6, "hold", 0, 1, 1))
        lives = []
        for _ in range(4):
            site.cut(())
            lives.append((site.rise(), site.life, lies_on(site.disk)))
        self.assertEqual([told[1] for told in lives], [2, 3, 4, 5])
        self.assertEqual({told[2] for told in lives}, {(((0, 0, 0, 0, 3),), (0,), ())})
        fresh = Disk(8)
        fresh.fuse(2)
        other = Site(5, fresh)
        self.assertEqual((other.up, other.life, shows(other)), (False, 0, ((), (), None, 0, (), (), ())))
        self.assertEqual((other.rise(), other.up, other.life), (True, True, 1))

    def test_news_over_cuts(self):
        site = self.noted()
        site.fuse(2)
        self.assertEqual((site.take((0, 6, "hold", 0, 1, 1)), site.news()), ((), (("mark", 0, 0),)))
        site.cut((0, 1))
        self.assertEqual((site.rise(), site.news()), (True, (("ready", 0),)))
        site.fuse(2)
        self.assertEqual((site.take((0, 6, "yes", 0)), site.news()), ((), ()))
        site.cut((0,))
        self.assertEqual((site.rise(), site.past, site.news(), site.news()), (True, (0,), (("yes", 0),), ()))
        # A no that was told is no event again, though a cut takes it; nor is the ready that comes back.
        site = self.noted()
        self.do_all(site, [(0, 6, "hold", 0, 1, 1), (0, 6, "no", 0)])
        self.assertEqual(site.news(), (("mark", 0, 0), ("ready", 0), ("no", 0)))
        site.cut(())
        self.assertEqual((site.rise(), site.holding, site.news()), (True, (0,), ()))
        self.assertEqual((site.take((0, 6, "no", 0)), site.news(), site.holding), ((), (), ()))
        # A mark that a cut takes is a no when the site comes up.
        site = self.noted()
        site.cut(())
        self.assertEqual((site.news(), site.rise(), site.news()), ((("mark", 0, 0),), True, (("no", 0),)))

    def test_the_date(self):
        site = self.noted(noted=0, rows=((4, 0, 0, 0, 8),))
        self.assertEqual((site.date, site.lying), (8, ()))
        self.do_all(site, [(0, 6, "hold", 0, 1, 1), (0, 6, "no", 0)])
        # The ready bears it, be there a no or not.
        site.cut(())
        self.assertEqual((site.rise(), site.date, site.holding), (True, 8, (0,)))
        site.take((0, 6, "no", 0))
        site.cut((0,))
        self.assertEqual((site.rise(), site.date, site.holding), (True, 8, ()))
        site = self.noted()
        site.cut((0,))
        self.assertEqual((site.rise(), site.date), (True, 0))
        site.take((0, 7, "visit", 1, 0, 0, 2))
        site.take((0, 7, "note", 1, 0, 0, 2, 0, 0, 10 ** 50, 0, ()))
        self.assertEqual(site.date, 10 ** 50)

    def noted_anew(self, first, second, rows=()):
        """A site in its third life: the same do was noted in both others, and got ready in the second one."""
        site = Site(5, Disk(40))
        self.do_all(site, [(5, 7, "visit", 8, 0, 0, 1), (5, 7, "note", 8, 0, 0, 1, 0, 0, first, 1, ())])
        site.cut([0])
        self.assertEqual((site.rise(), site.lying, site.date), (True, (), 0))
        self.do_all(site, [(5, 7, "visit", 8, 0, 0, 2), (5, 7, "note", 8, 0, 0, 2, 0, 1, second, 1, rows)])
        self.assertEqual(site.date, second)
        self.do_all(site, [(5, 6, "hold", 8, 1, 2)])
        site.cut([])
        site.rise()
        return site

    def test_the_date_of_a_do_that_is_no_row_any_more(self):
        """Only the rows that a new life has count for its date, and the readies."""
        for first, second in ((9, 1), (1, 9), (10 ** 50, 2), (4, 4)):
            site = self.noted_anew(first, second)
            self.assertEqual((site.life, site.lying, site.holding), (3, ((8, 0, 0, 1, second),), (8,)))
            self.assertEqual(site.date, second)
            self.assertEqual(site.take((5, 8, "visit", 3, 0, 0, 3)),
                             ((8, 5, "shown", 3, 0, 0, 3, second, (), ((8, 1, 0, 0),)),))
            # So it is with a yes, and in all later lives; what gets ready then bears this date.
            self.do_all(site, [(5, 8, "leave", 3, 0, 0, ()), (5, 6, "yes", 8)])
            site.cut([])
            self.assertEqual((site.rise(), site.past, site.date), (True, (8,), second))
            self.do_all(site, [(5, 8, "visit", 3, 0, 0, 4), (5, 8, "note", 3, 0, 0, 4, 0, 0, 1, 0, ()), (5, 6, "hold", 3, 1, 4)])
            site.cut([])
            self.assertEqual((site.rise(), site.holding, site.date), (True, (3,), second))
        # What the note brought counts as ever: the date of the site was that of the greatest row.
        site = self.noted_anew(9, 5, ((4, 0, 0, 0, 3),))
        self.assertEqual((site.lying, site.date), (((4, 0, 0, 0, 3), (8, 0, 0, 1, 5)), 5))

    def test_the_date_of_a_do_that_was_brought_anew(self):
        """A do of the first life, which its deal's ready would let count, but it was brought in the second one."""
        site = Site(5, Disk(40))
        self.do_all(site, [(5, 7, "visit", 8, 0, 0, 1), (5, 7, "note", 8, 0, 0, 1, 0, 0, 9, 1, ())])
        site.cut([0])
        site.rise()
        self.do_all(site, [(5, 8, "visit", 3, 0, 0, 2), (5, 8, "note", 3, 0, 0, 2, 0, 0, 3, 1, ((8, 0, 0, 0, 2),)),
                           (5, 7, "visit", 8, 1, 0, 2), (5, 7, "note", 8, 1, 0, 2, 0, 0, 4, 1, ()), (5, 6, "hold", 8, 1, 2)])
        site.cut([])
        self.assertEqual((site.rise(), site.lying, site.holding), (True, ((8, 0, 0, 0, 2), (8, 1, 0, 0, 4)), (8,)))
        self.assertEqual(site.date, 4)

    def life_of_notes(self, dice, site, plainly):
        """Some notes of few deals in one life, some of which get ready, and a cut at which most of it lands."""
        for _ in range(dice.randint(1, 3)):
            deal, number, life = dice.randrange(2), dice.randrange(2), site.life
            told = (dice.randrange(2), dice.randrange(2), dice.randint(1, 9), dice.choice([0, 1, 1, 1]))
            brought = ((1 - deal, dice.randrange(2), 0, 0, dice.randint(1, 9)),) if told[3] and dice.random() < 0.2 else ()
            letters = [(0, 7, "visit", deal, number, 0, life), (0, 7, "note", deal, number, 0, life) + told + (brought,)]
            if dice.random() < 0.4:
                many = len([mark for mark in site.marks if mark[0] == deal])
                letters.append((0, 6, "hold", deal, many + 1, life))
            if dice.random() < 0.2:
                letters.append((0, 6, dice.choice(["yes", "no"]), deal))
            for letter in letters:
                self.assertEqual(site.take(letter), plainly.take(letter))
                self.assertEqual(shows(site), plainly.shows())
        lands = tuple(k for k in range(site.disk.waiting()) if dice.random() < 0.9)
        for node in (site, plainly):
            node.cut(lands, ())
            node.rise()

    def test_random_dates_of_new_lives(self):
        """A do that is no row any more gives no date: lives that put the same dos again."""
        lesser = 0
        for seed in range(400):
            dice = random.Random(seed)
            site, plainly = Site(0, Disk(60)), PlainSite(0, 60)
            for _ in range(4):
                self.life_of_notes(dice, site, plainly)
                self.assertEqual(shows(site), plainly.shows())
                sure = site.holding + site.past
                dates = [record[4] for record in plainly.records if len(record) == 5
                         and (record[0] % 8 == 1 or record[0] // 8 in sure)]
                lesser += site.date < max([0] + dates)
        self.assertGreater(lesser, 20)

    def test_two_records_of_one_do(self):
        """Of two of one deal and number the one that was put last counts, at its place; of those that count at all."""
        own, brought, other, ready = (16, 0, 1, 0, 5), (17, 0, 0, 0, 6), (25, 4, 0, 0, 7), (18, 7)
        last, early, late = (2, 0, 0, 0, 6), (2, 0, 1, 0, 5), (3, 4, 0, 0, 7)
        for records, rows in (((own, other, brought, ready), (late, last)), ((brought, other, own, ready), (late, early)),
                              ((brought, other, own), (last, late)), ((own, other, brought), (late, last)), ((own, other, ready), (early, late)),
                              ((own, other), (late,)), ((own, other, (18, 7), (20,)), (late,)), ((own, other, (18, 7), (19,)), (early, late)),
                              ((brought, other, brought), (late, last))):
            disk = Disk(16)
            journal = Journal(disk)
            for record in records:
                journal.put(record)
            self.assertEqual(lies_on(disk)[0], ())
            journal.force()
            self.assertEqual(lies_on(disk)[0], rows)
            self.assertEqual(Site(0, disk).lying, rows)

    def test_a_do_that_is_brought_in_a_later_life(self):
        site = self.noted()
        site.cut((0,))
        self.assertEqual((site.rise(), site.lying), (True, ()))
        site.take((0, 8, "visit", 1, 0, 0, 2))
        site.take((0, 8, "note", 1, 0, 0, 2, 0, 0, 5, 1, ((4, 0, 0, 0, 1), (0, 0, 0, 0, 3))))
        self.assertEqual(site.lying, ((4, 0, 0, 0, 1), (0, 0, 0, 0, 3), (1, 0, 0, 0, 5)))
        site.take((0, 7, "visit", 0, 1, 0, 2))
        site.take((0, 7, "note", 0, 1, 0, 2, 1, 0, 6, 1, ()))
        site.take((0, 6, "hold", 0, 1, 2))
        # It is brought as that of an ended deal: it is shown, also while its deal is ready, and stays when that is called off.
        self.assertEqual(site.take((0, 9, "visit", 2, 0, 0, 2))[0][8], ((4, 0, 0, 0, 1), (0, 0, 0, 0, 3)))
        site.cut(())
        site.rise()
        self.assertEqual(site.lying, ((4, 0, 0, 0, 1), (0, 0, 0, 0, 3), (0, 1, 1, 0, 6)))
        site.take((0, 6, "no", 0))
        self.assertEqual(site.lying, ((4, 0, 0, 0, 1), (0, 0, 0, 0, 3)))

    def test_errors(self):
        disk = Disk(16)
        for value in NO_INTEGERS + [-1, 6]:
            self.refuses(BadNumber("number"), Site, value, disk)
            self.refuses(BadNumber("number"), Site, value, None)
        for value in (None, 16, Disk, Odd()):
            self.refuses(BadValue("disk"), Site, 0, value)
            self.refuses(BadValue("disk"), lies_on, value)
        self.assertEqual(lies_on(disk=disk), ((), (), ()))
        site = Site(disk=disk, number=OwnInt(3))
        self.assertIs(site.disk, disk)
        self.assertIs(type(site.number), int)
        for _ in range(2):
            told = (shows(site), site.disk.kept(), site.up)
            for value in NO_LISTS + [(2, 7, "no", 0), (3, 7, "hold", 0, 1, 1), (6, 3, "done", 0), (7, 3, "gone", 0, 1), (3, 6, "no")]:
                self.refuses(BadValue("letter"), site.take, value)
            for value in NO_INTEGERS + [-1, 12]:
                self.refuses(BadNumber("deal"), site.drop, value)
            for value in NO_INTEGERS + [0, -1]:
                self.refuses(BadNumber("many"), site.fuse, value)
            self.refuses(BadLot("lands"), site.cut, [1])
            self.refuses(BadLot("torn"), site.cut, [], [True])
            self.assertEqual((shows(site), site.disk.kept(), site.up), told)
            site.cut(lands=(), torn=[])
        self.assertEqual((site.rise(), site.drop(deal=0), site.take(letter=(3, 6, "no", 0))), (True, (), ()))
        site.take((3, 7, "visit", 1, 0, 0, 2))
        site.take((3, 7, "note", 1, 0, 0, 2, 0, 0, 1, 1, ()))
        self.refuses(Misfit("torn"), site.cut, [0], [0])
        self.assertEqual((site.up, site.disk.waiting()), (True, 1))

    def test_copies_and_no_classes_of_their_own(self):
        site = Site(0, Disk(30))
        rows = [[4, 0, 0, 0, 1]]
        site.take(OwnList([OwnInt(0), 7, OwnStr("visit"), OwnInt(1), 0, 0, 1]))
        site.take([0, 7, "note", OwnInt(1), 0, 0, 1, OwnInt(0), 0, OwnInt(3), 1, rows])
        rows[0][1] = 9
        self.assertEqual(site.lying, ((4, 0, 0, 0, 1), (1, 0, 0, 0, 3)))
        site.take([0, 6, "hold", 1, OwnInt(1), 1])
        for value in (shows(site), site.again(), site.news(), lies_on(site.disk), site.disk.kept(), site.number, site.life):
            self.assertTrue(plain(value))


if __name__ == "__main__":
    unittest.main()
