"""Drawn programs and scripts of all mishaps, held against what always holds."""

import copy
import random
import unittest

from fewvisits.disks import Disk
from fewvisits.joins import joined
from fewvisits.journals import meant
from fewvisits.letters import is_letter
from fewvisits.orders import Fits
from fewvisits.patience import goes_one_way
from fewvisits.programs import Program
from fewvisits.sites import lies_on
from fewvisits.stories import story
from fewvisits.tellers import yeses_of
from fewvisits.weaves import fits_all
from fewvisits.worlds import World
from tests.naive_worlds import PlainWorld
from tests.drawn_worlds import KINDS, right_spread, some_pairs, some_program, some_script, wrong_things


class Watched:
    """A world, and what was told and brought in it."""

    def __init__(self, test, world):
        self.test, self.world = test, world
        self.told, self.brought, self.ready, self.yes_at, self.no_at = {}, {}, {}, set(), set()

    def site(self, number):
        return self.world._nodes[number]

    def sites(self):
        return [number for number in self.world._nodes if number < 6]

    def step(self, step):
        ahead = self.world.letters()
        letter = ahead[step[1] % len(ahead)] if step[0] == "bring" and ahead else None
        is_note = letter is not None and letter[2] == "note" and letter[10] == 1
        marks = self.site(letter[0]).marks if is_note else ()
        self.world.step(step)
        self.test.assertTrue(all(is_letter(other) for other in self.world.letters()))
        if is_note and len(self.site(letter[0]).marks) > len(marks):
            self.brought[letter[0], letter[3], letter[4]] = [row[:2] for row in letter[11]]
        for other in self.world.letters():
            if other[1] == 6 and other[2] in ("yes", "no", "told"):
                yes = other[2] == "yes" or other[2] == "told" and other[4] == 1
                self.test.assertEqual(self.told.setdefault(other[3], yes), yes)
        for number in self.sites():
            for deal in self.site(number).holding:
                if (number, deal) not in self.ready:
                    self.ready[number, deal] = [key for key in self.brought if key[:2] == (number, deal)]

    def look(self, dice):
        """What lies on all disks behind some cut."""
        teller = self.cut_off(dice, self.world._teller.disk)
        lying = [deal for deal, _ in yeses_of(teller)]
        for deal, yes in self.told.items():
            self.test.assertEqual(deal in lying, yes)
        for number in self.sites():
            disk = self.cut_off(dice, self.site(number).disk)
            rows, ready, ended = lies_on(disk)
            noes = {record[0] // 8 for record in meant(disk)[2] if record[0] % 8 == 4}
            self.yes_at |= set(ended) | set(self.site(number).past)
            self.no_at |= noes
            for place, deal in self.ready:
                if place == number:
                    self.test.assertIn(deal, set(ready) | set(ended) | noes)
            for lot in ([row[:2] for row in rows], [row[:2] for row in self.site(number).lying]):
                for (place, deal, step), brought in self.brought.items():
                    if place == number and (deal, step) in lot:
                        self.test.assertFalse([key for key in brought if key not in lot])
            for (place, deal), keys in self.ready.items():
                if place == number and deal not in noes:
                    for key in keys:
                        for wanted in [key[1:]] + self.brought[key]:
                            self.test.assertIn(wanted, [row[:2] for row in rows])
        self.test.assertFalse(self.yes_at & self.no_at)

    def cut_off(self, dice, disk):
        """A copy of a disk behind some cut."""
        other = copy.deepcopy(disk)
        marks = [dice.choice([0, 0, 1, 1, 2]) for _ in range(other.waiting())]
        other.cut([k for k, mark in enumerate(marks) if mark == 1], [k for k, mark in enumerate(marks) if mark == 2])
        return other


def all_told(world):
    """All that a world tells of itself."""
    logs = tuple(world.log(thing) for thing in range(len(world.program.things)))
    return (world.letters(), world.weave().events, world.settled().events, world.heard(), world.waits(), world.lives(), world.out(), logs)


class Drawn(unittest.TestCase):

    def nothing_wrong(self, world, right):
        self.assertEqual(wrong_things(world, right), [])
        self.assertEqual(len(story(world)), len(world.weave().events))
        if right and all(len(history) <= 7 for history in [world.settled().ended]):
            self.assertEqual(joined(world.settled()), Fits(world.order()))

    def test_whatever_the_script_is(self):
        found = {}
        for seed in range(160):
            dice = random.Random(seed)
            right = seed % 4 > 0
            world = World(some_program(dice, right))
            for step in some_script(dice, world.program, dice.choice([30, 100, 400, 1500])):
                told = world.heard()
                world.step(step)
                self.same_ends(told, world.heard())
                if dice.random() < 0.04:
                    self.nothing_wrong(world, right)
            self.nothing_wrong(world, right)
            told = world.heard()
            world.calm()
            self.same_ends(told, world.heard())
            self.nothing_wrong(world, right)
            for _, outcome in world.heard():
                found[right, outcome] = found.get((right, outcome), 0) + 1
        self.assertNotIn((True, None), found)
        self.assertGreater(min(found[key] for key in ((True, 1), (True, 0), (False, 1), (False, 0))), 30, found)

    def same_ends(self, ahead, behind):
        """What was heard and answered stays so."""
        for (answers, outcome), (later, other) in zip(ahead, behind):
            self.assertEqual(later[:len(answers)], answers)
            if outcome is not None:
                self.assertEqual((later, other), (answers, outcome))

    def test_as_told_plainly(self):
        """Step by step, and behind calm, as a world of nodes and hands that are told plainly."""
        for seed in range(45):
            dice = random.Random(7000 + seed)
            pairs = None if seed % 3 else dice.sample([(one, other) for one in range(8) for other in range(8) if one != other], 20)
            program = some_program(dice, seed % 2 == 0, pairs=pairs)
            world, plainly = World(program), PlainWorld(program)
            for step in some_script(dice, program, dice.choice([60, 150, 300])):
                self.assertEqual(world.step(step), plainly.step(step), (seed, step))
                self.assertEqual(world.letters(), tuple(plainly.bag), (seed, step))
                if dice.random() < 0.1:
                    self.assertEqual(all_told(world), plainly.all_told())
            self.assertEqual(world.calm(), plainly.calm())
            self.assertEqual(all_told(world), plainly.all_told())

    def test_what_lies_on_the_disks(self):
        found = {True: 0, False: 0}
        for seed in range(120):
            dice = random.Random(1000 + seed)
            watched = Watched(self, World(some_program(dice, True)))
            # Small disks: sites run out of room, and the teller, too.
            many = dice.choice([8, 16, 256])
            if many < 256:
                for number in list(watched.world._nodes):
                    node = watched.world._nodes[number]
                    smaller = type(node)(*([number] if number < 6 else []), Disk(many if number < 6 else 2 * many))
                    watched.world._nodes[number] = smaller
                    if number == 6:
                        watched.world._teller = smaller
            for step in some_script(dice, watched.world.program, dice.choice([100, 400, 800]), dice.choice([0, 0.03, 0.1])):
                watched.step(step)
                if dice.random() < 0.04:
                    watched.look(dice)
            watched.look(dice)
            for yes in watched.told.values():
                found[yes] += 1
        self.assertGreater(min(found.values()), 3, found)

    def test_nobody_is_called_off_for_nothing(self):
        """Without mishaps, and without pushes, each deal hears yes; and with pairs that go one way only who is pushed hears no."""
        for seed in range(60):
            dice = random.Random(2000 + seed)
            program = some_program(dice, True)
            self.assertTrue(goes_one_way(program.pairs))
            world = World(program)
            world.calm()
            self.nothing_wrong(world, True)
            self.assertNotIn(None, [outcome for _, outcome in world.heard()])
            pushed = {deal for deal, (_, outcome) in enumerate(world.heard()) if outcome == 0}
            if pushed:
                self.assertGreater(len([hand for hand in program.hands if hand]), 1)
            # One hand alone never meets anybody at work.
            alone = World(Program(program.things, [program.deals], program.pairs))
            alone.calm()
            self.assertEqual({outcome for _, outcome in alone.heard()} - {1}, set())

    def test_deals_that_wait_for_all(self):
        """If all may wait for all of greater numbers, nobody is pushed but by those of greater numbers."""
        for seed in range(40):
            dice = random.Random(3000 + seed)
            program = some_program(dice, True, pairs=[(one, other) for one in range(8) for other in range(one + 1, 8)])
            world = World(program)
            world.run(some_script(dice, program, 300, 0))
            world.calm()
            heard = [outcome for _, outcome in world.heard()]
            self.assertNotIn(None, heard)
            if heard:
                # The last one is pushed by nobody, as all others may wait for it.
                self.assertEqual(heard[-1], 1)

    def test_heard_ahead_of_the_first_event(self):
        """Who had heard yes ahead of the first event of another one stands ahead of it, if one has seen the other."""
        count = 0
        for seed in range(60):
            dice = random.Random(4000 + seed)
            world = World(some_program(dice, True))
            heard_at, first_at = {}, {}
            for place, step in enumerate(some_script(dice, world.program, 300, 0.02)):
                world.step(step)
                for deal, (answers, outcome) in enumerate(world.heard()):
                    if answers and deal not in first_at:
                        first_at[deal] = place
                    if outcome == 1 and deal not in heard_at:
                        heard_at[deal] = place
            order = world.order()
            logs = [world.log(thing) for thing in range(len(world.program.things))]
            for one in order:
                for other in order:
                    if one in heard_at and other in first_at and heard_at[one] < first_at[other]:
                        sees = any(record[0] == "do" and record[1] == other and one in [pair[0] for pair in record[7]]
                                   for log in logs for record in log)
                        if sees:
                            self.assertLess(order.index(one), order.index(other))
                            count += 1
        self.assertGreater(count, 10)

    def test_equal_worlds(self):
        """The same program and script make the same world, be the script run or stepped."""
        for seed in range(30):
            dice = random.Random(5000 + seed)
            program = some_program(dice, seed % 2 == 0)
            script = some_script(dice, program, 200)
            one, other = World(program), World(program)
            told = [other.step(list(step)) for step in script]
            self.assertEqual(one.run(script), len([did for did in told if did]))
            self.assertTrue(all(did is True or did is False for did in told))
            for _ in range(2):
                self.assertEqual((one.letters(), one.heard(), one.weave(), one.lives(), one.out(), one.waits()),
                                 (other.letters(), other.heard(), other.weave(), other.lives(), other.out(), other.waits()))
                self.assertEqual(one.calm(), other.calm())

    def test_right_orders_hold(self):
        for seed in range(30):
            dice = random.Random(6000 + seed)
            kind = dice.choice(KINDS)
            program = Program([(right_spread(dice, kind, 3), (0, 1, 2))],
                              [[[(0, dice.randrange(len(kind.asks))) for _ in range(2)]] for _ in range(6)], some_pairs(dice))
            world = World(program)
            world.run(some_script(dice, program, 400, 0))
            world.calm()
            self.assertTrue(fits_all(world.settled(), world.order()))


if __name__ == "__main__":
    unittest.main()
