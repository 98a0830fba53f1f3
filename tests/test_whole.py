"""The whole document: from a text that is typed to kinds, spreads, worlds over it, and the tears of its wrong spreads."""

import random
import time
import unittest

from fewvisits.check_right import shows_right
from fewvisits.check_tears import shows_tight, shows_torn
from fewvisits.joins import joined, shows_joined
from fewvisits.kinds import Kind, is_sure, operations_of
from fewvisits.least_notes import majority
from fewvisits.lowered import lowered
from fewvisits.makers import chest, counter, line, purse, shelf
from fewvisits.orders import Fits
from fewvisits.own import keeps
from fewvisits.patience import by_number
from fewvisits.programs import Program
from fewvisits.right import is_right
from fewvisits.scripts import read_script, script_text
from fewvisits.spread_logs import first_stray, history_of
from fewvisits.spread_runs import log_of
from fewvisits.spreads import Spread
from fewvisits.stories import story
from fewvisits.tears import Torn, lesser_spreads, played_world, tight, torn
from fewvisits.things import Thing
from fewvisits.tongue import made, same, told
from fewvisits.weaves import fits_all, order_of_all
from fewvisits.worlds import World
from tests.drawn_worlds import some_script, wrong_things

TEXTS = [
    "number left 0 2 2 / ask take : when yes answer done set left - left 1 : when yes answer none / ask back : when yes answer done"
    " set left + left 1 : when yes answer full",
    "line jobs 2 2 / ask add 0 1 : when yes answer ok push jobs it : when yes answer full / ask next : when yes answer i front jobs"
    " shift jobs : when yes answer empty",
    "lot kept 2 / ask put 0 1 : when not has kept it answer ok put kept it : when yes answer there / ask get : pick 0 1 has kept one"
    " answer i one drop kept one : when = size kept 0 answer empty",
    "number hits 0 3 0 / ask hit : when yes answer ok set hits + hits 1 : when yes answer ok set hits 0 / ask read : when yes answer n hits",
    "number on 0 1 0 / ask set 0 1 : when yes answer ok set on it / ask look : when yes answer is on",
    "ask ping : when yes answer pong",
]


class Whole(unittest.TestCase):

    def test_each_thing(self):
        torn_many = 0
        for text in TEXTS:
            thing = Thing(text)
            kind = made(thing).kind
            self.assertEqual(Kind.read(str(kind)), kind)
            self.assertTrue(same(thing, told(kind)))
            for sites in (1, 3, 5):
                wide = majority(kind, sites)
                low = lowered(wide)
                for spread in (wide, low):
                    self.assertTrue(is_right(spread) and shows_right(spread, is_right(spread)))
                    self.world_of(spread)
                self.assertTrue(tight(low) and shows_tight(low, tight(low)))
                for _, wrong in lesser_spreads(low):
                    torn_many += self.tear(wrong, is_right(wrong))
        self.assertGreater(torn_many, 20)

    def world_of(self, spread):
        """Worlds over a right spread, whatever the script is."""
        sites = list(range(spread.sites))
        asks = range(len(spread.kind.asks))
        for seed in range(4):
            dice = random.Random(seed)
            hands = [[[(0, dice.choice(asks)) for _ in range(dice.randint(1, 3))]] for _ in range(5)]
            world = World(Program([(spread, sites)], hands, by_number(8, seed % 2 == 0)))
            world.run(some_script(dice, world.program, 120))
            self.assertEqual(wrong_things(world, True), [])
            world.calm()
            self.assertEqual(wrong_things(world, True), [])
            self.assertNotIn(None, [outcome for _, outcome in world.heard()])
            self.assertEqual(joined(world.settled()), Fits(world.order()))
            self.assertTrue(shows_joined(world.settled(), Fits(world.order())))
            self.assertTrue(keeps(history_of(spread, world.log(0))))
            self.assertEqual((world.letters(), world.out()), ((), ()))

    def tear(self, wrong, paper):
        """The run, and the tear, of a spread that is not right; whether there is a tear."""
        self.assertFalse(paper)
        log = log_of(wrong, paper)
        self.assertEqual((first_stray(wrong, log), bool(keeps(history_of(wrong, log)))), (None, False))
        if not is_sure(wrong.kind):
            return False
        rent = torn(wrong)
        world = played_world(rent.program, read_script(script_text(rent.script)))
        self.assertEqual({outcome for _, outcome in world.heard()}, {1})
        self.assertFalse(order_of_all(world.settled()))
        self.assertEqual(len(story(world)), len(world.weave().events))
        self.assertTrue(shows_torn(wrong, rent))
        # The same run over a right spread tears nothing.
        right = Program([(majority(wrong.kind, wrong.sites), rent.program.things[0][1]), rent.program.things[1]], rent.program.hands)
        fine = played_world(right, rent.script)
        self.assertTrue(fits_all(fine.settled(), fine.order()))
        self.assertFalse(shows_torn(right.things[0][0], Torn(right, rent.script)))
        return True

    def test_a_deal_over_two_kinds_of_things(self):
        seats, jobs = [made(Thing(text)).kind for text in TEXTS[:2]]
        things = [(lowered(majority(seats, 3)), [0, 1, 2]), (lowered(majority(jobs, 2)), [4, 5])]
        trip = [(0, 0), (1, 0), (0, 0), (1, 2)]
        world = World(Program(things, [[trip], [trip], [[(0, 1)], [(0, 0)]]], by_number(4, True)))
        self.assertGreater(world.calm(), 0)
        self.assertNotIn(None, [outcome for _, outcome in world.heard()])
        self.assertTrue(fits_all(world.settled(), world.order()))

    def test_long_runs_end_in_a_short_time(self):
        start = time.process_time()
        things = [(majority(kind, sites), places) for kind, sites, places in
                  ((chest(4), 2, [0, 1]), (purse(8, 4), 2, [2, 3]), (counter(10), 1, [4]), (shelf(7, 0), 1, [5]))]
        for seed in range(3):
            dice = random.Random(seed)
            deals = [[(dice.randrange(4), 0) for _ in range(12)] for _ in range(8)]
            deals = [[(thing, dice.randrange(len(things[thing][0].kind.asks))) for thing, _ in deal] for deal in deals]
            for pairs in ((), by_number(8, True), by_number(8, False)):
                world = World(Program(things, [[deal] for deal in deals], pairs))
                world.run(some_script(dice, world.program, 2000, 0.02))
                world.run([("bring", 0)] * 50 + [("send", hand) for hand in range(8)] + [("again", node) for node in range(7)] * 30)
                self.assertLessEqual(len(world.letters()), 100)
                world.calm()
                self.assertEqual(wrong_things(world, True), [])
                self.assertNotIn(None, [outcome for _, outcome in world.heard()])
        wide = majority(line(3, 3), 5)
        self.assertTrue(is_right(lowered(wide)))
        full = Spread(wide.kind, 5, [operation + (5, 5) for operation in operations_of(wide.kind)])
        self.assertFalse(tight(full))
        self.assertLess(time.process_time() - start, 60)


if __name__ == "__main__":
    unittest.main()
