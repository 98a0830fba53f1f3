"""Worlds, clause by clause: what hands do with each letter, what steps do, what is written down, and calm."""

from fewvisits.errors import BadNumber, BadScript, BadValue
from fewvisits.least_notes import majority
from fewvisits.makers import counter, tickets
from fewvisits.programs import Program
from fewvisits.spreads import Spread
from fewvisits.stories import story
from fewvisits.weaves import Weave
from fewvisits.worlds import World
from tests.naive import NO_INTEGERS, NO_LISTS, Odd, OwnInt, OwnList, OwnStr, plain
from tests.refusing import Refusing
from tests.test_spreads import BOX, FEW

MAJORITY = majority(BOX, 3)
SINGLE = majority(BOX, 1)
PUT, TAKE = (0, 0), (0, 1)


def one_world(deals=((PUT,),), sites=(0, 2, 4), spread=MAJORITY, pairs=(), hands=None):
    """A world with one thing; all deals are the first hand's, if no hands are told."""
    return World(Program([(spread, sites)], hands or [list(deals)], pairs))


def see(hand, *sites):
    """A hand visits sites, and all of them are counted."""
    return [step for site in sites for step in (("visit", hand, site), ("bring", 0), ("bring", 0))]


def do(hand, bits, *sites):
    """A hand does a step."""
    return see(hand, *sites) + [("decide", hand, bits)] + [("bring", 0)] * (2 * len(sites))


def end(hand, many):
    """A hand ends a deal that many sites have a note of."""
    return [("send", hand)] + [("bring", 0)] * (4 * many + 2)


class Hands(Refusing):

    def test_visits(self):
        world = one_world()
        tries = [("visit", 0, 1), ("visit", 1, 0), ("visit", 0, 2), ("visit", 0, 2), ("visit", 0, 0), ("visit", 0, 5), ("visit", 0, 4)]
        self.assertEqual([world.step(step) for step in tries], [False, False, True, False, False, False, True])
        self.assertEqual(world.letters(), ((2, 7, "visit", 0, 0, 0, 1), (4, 7, "visit", 0, 0, 0, 1)))
        # The site 4 is awaited instead of 2: what 2 shows is left; what 4 shows is counted, be it doubled or not.
        self.assertEqual([world.step(("bring", 0)), world.step(("bring", 1)), world.letters()],
                         [True, True, ((4, 7, "visit", 0, 0, 0, 1), (2, 7, "leave", 0, 0, 0, ()))])
        world.run([("twice", 0), ("bring", 2), ("bring", 0), ("bring", 0), ("bring", 0)])
        self.assertEqual(world.letters(), ((7, 4, "shown", 0, 0, 0, 1, 0, (), ()),))
        self.assertEqual([world.step(("bring", 0)), world.letters()], [True, ()])

    def test_a_site_that_is_awaited_is_not_counted(self):
        world = one_world(spread=SINGLE, sites=(3,))
        self.assertEqual([world.step(("decide", 0, 1)), world.step(("leave", 0))], [False, False])
        world.step(("visit", 0, 3))
        self.assertIs(world.step(("decide", 0, 1)), False)
        self.assertEqual([world.step(("send", 0)), world.letters()], [True, ((3, 7, "visit", 0, 0, 0, 1),) * 2])
        world.run([("bring", 0), ("bring", 0), ("bring", 0), ("bring", 0)])
        self.assertEqual([world.letters(), world.step(("send", 0))], [(), False])
        self.assertIs(world.step(("decide", 0, 1)), True)

    def test_near(self):
        world = one_world()
        world.run(see(0, 0))
        self.assertEqual([world.step(("decide", 0, 1)), world.letters(), world.heard()], [False, (), (((), None),)])
        world.run(see(0, 4))
        self.assertIs(world.step(("decide", 0, 1)), True)
        # One site told is too few for two notes: it is noted at all that are counted.
        self.assertEqual(world.letters(), tuple((site, 7, "note", 0, 0, 0, 1, 0, 0, 1, 1, ()) for site in (0, 4)))

    def test_bits(self):
        for bits, noted in ((0, (0, 2, 4)), (1, (0, 2, 4)), (3, (0, 2)), (5, (0, 4)), (6, (2, 4)), (7, (0, 2, 4)), (8, (0, 2, 4)),
                            (3 + 2 ** 190, (0, 2))):
            world = one_world()
            world.run(see(0, 0, 2, 4) + [("decide", 0, bits)])
            self.assertEqual([(letter[0], letter[10]) for letter in world.letters()], [(site, int(site in noted)) for site in (0, 2, 4)])
            world.run([("bring", 0)] * 6 + end(0, 3))
            self.assertEqual(world.log(0)[0][5:7], ((0, 1, 2), tuple((0, 2, 4).index(site) for site in noted)))
        # A short needs no notes at all.
        world = one_world(deals=((TAKE,),))
        world.run(see(0, 0, 4) + [("decide", 0, 0)])
        self.assertEqual([letter[7:] for letter in world.letters()], [(1, 1, 1, 0, ())] * 2)

    def test_a_note_under_way(self):
        world = one_world(deals=((PUT, TAKE),))
        world.run(see(0, 0, 2, 4) + [("decide", 0, 7)])
        for step in (("visit", 0, 4), ("decide", 0, 7), ("leave", 0)):
            self.assertIs(world.step(step), False)
        note = world.letters()
        # All notes but that of the site 2 are told noted, one of them twice; it alone is sent again.
        world.run([("twice", 0), ("bring", 0), ("bring", 1), ("bring", 1), ("bring", 1), ("bring", 1), ("bring", 1), ("lose", 0)])
        self.assertEqual(world.letters(), ())
        self.assertEqual([world.step(("send", 0)), world.letters()], [True, (note[1],)])
        world.run([("twice", 0), ("bring", 0), ("bring", 1)])
        self.assertEqual(world.letters(), ((2, 7, "note", 0, 0, 0, 1, 0, 0, 1, 1, ()),))
        self.assertIs(world.step(("visit", 0, 0)), True)
        # A noted that comes twice does nothing to the next step, and the step has its own tries.
        world.run([("bring", 0), ("bring", 1), ("bring", 0), ("bring", 0)])
        world.run(see(0, 2))
        self.assertEqual([world.step(("decide", 0, 3)), [letter[3:6] for letter in world.letters()]], [True, [(0, 1, 0)] * 2])
        self.assertEqual(world.letters()[0][8:], (0, 2, 1, ((0, 0, 0, 0, 1),)))

    def test_rows_and_what_is_known(self):
        # Three deals of one hand; the second one sees the first, and the third sees it by what the second one brought.
        two = Spread(BOX, 3, [(0, 0, 2, 2), (1, 0, 2, 2), (1, 1, 2, 2)])
        world = one_world(deals=((PUT,), (TAKE, PUT), (TAKE,)), spread=two, sites=(0, 1, 2))
        world.run(do(0, 3, 0, 1) + end(0, 2))
        world.run(see(0, 1, 2) + [("decide", 0, 3)])
        self.assertEqual([letter[7:] for letter in world.letters()], [(1, 0, 2, 1, ((0, 0, 0, 0, 1),))] * 2)
        world.run([("bring", 0)] * 4)
        # It knows the do of deal 0, though nobody shows it at the site 0 alone: its view has its own do behind.
        world.run(see(0, 0, 2) + [("decide", 0, 3)])
        self.assertEqual([letter[7:] for letter in world.letters()], [(0, 0, 3, 1, ((0, 0, 0, 0, 1), (1, 0, 1, 0, 2)))] * 2)
        world.run([("bring", 0)] * 4 + end(0, 3) + see(0, 0, 2) + [("decide", 0, 3)])
        rows = ((0, 0, 0, 0, 1), (1, 0, 1, 0, 2), (1, 1, 0, 0, 3))
        self.assertEqual([letter[7:] for letter in world.letters()], [(1, 0, 4, 1, rows)] * 2)
        world.run([("bring", 0)] * 4 + end(0, 2))
        self.assertEqual(world.log(0)[-3:], (("do", 2, 1, 0, 4, (0, 2), (0, 2), ((0, 1), (1, 2))), ("ready", 2), ("yes", 2)))
        self.assertEqual(world.heard(), (((0,), 1), ((0, 0), 1), ((0,), 1)))

    def test_leaves(self):
        world = one_world()
        world.run([("visit", 0, 0), ("bring", 0), ("bring", 0), ("visit", 0, 2), ("visit", 0, 4)])
        self.assertEqual([world.step(("leave", 0)), world.letters()[2:]],
                         [True, ((0, 7, "leave", 0, 0, 0, ()), (4, 7, "leave", 0, 0, 0, ()))])
        self.assertEqual([world.step(("leave", 0)), world.step(("send", 0)), world.step(("decide", 0, 1))], [False] * 3)
        self.assertEqual([world.step(("visit", 0, 0)), world.letters()[-1]], [True, (0, 7, "visit", 0, 0, 1, 1)])

    def test_another_life_of_an_awaited_site(self):
        world = one_world()
        world.run(see(0, 0) + [("visit", 0, 2), ("cut", 2, 0), ("rise", 2), ("bring", 0)])
        self.assertEqual([world.letters(), world.step(("bring", 0)), world.letters()], [((7, 2, "gone", 0, 2),), True, ()])
        self.assertEqual([world.step(("send", 0)), world.step(("visit", 0, 2)), world.heard()], [False, False, (((), None),)])
        self.assertIs(world.step(("decide", 0, 1)), False)
        self.assertEqual([world.step(("leave", 0)), world.letters()], [True, ((0, 7, "leave", 0, 0, 0, ()),)])
        world.run([("bring", 0), ("visit", 0, 2)])
        self.assertEqual(world.letters(), ((2, 7, "visit", 0, 0, 1, 2),))
        # A try ends, too, when no site is left to write to.
        world.run([("bring", 0), ("bring", 0), ("leave", 0), ("bring", 0), ("cut", 4, 0), ("rise", 4), ("visit", 0, 4), ("bring", 0), ("bring", 0)])
        self.assertEqual([world.letters(), world.step(("leave", 0)), world.letters()], [(), True, ()])

    def test_the_life_that_it_awaits(self):
        # The site called the deal off in this very life: the letter tells the life that the visit bore.
        world = one_world()
        world.run(see(0, 0) + [("visit", 0, 2), ("bring", 0), ("drop", 2, 0), ("bring", 1)])
        self.assertEqual([world.heard(), world.letters()], [(((), 0),), ((7, 2, "shown", 0, 0, 0, 1, 0, (), ()), (0, 7, "no", 0))])
        # A shown of a deal that it does no more is left.
        self.assertEqual([world.step(("bring", 0)), world.letters()], [True, ((0, 7, "no", 0), (2, 7, "leave", 0, 0, 0, ()))])

    def test_gone_while_a_note_is_under_way(self):
        world = one_world(deals=((PUT,), (TAKE,)))
        world.run(see(0, 0, 2, 4) + [("decide", 0, 7), ("cut", 2, 0), ("rise", 2), ("bring", 1)])
        self.assertEqual(world.letters()[-1], (7, 2, "gone", 0, 2))
        world.run([("bring", 2)])
        self.assertEqual([world.heard(), world.letters()[-2:]], [(((0,), 0), ((), None)), ((0, 7, "no", 0), (4, 7, "no", 0))])
        self.assertEqual(world.weave().events, (("ask", 0, 0, 0), ("answer", 0, 0, 0), ("no", 0, 0)))
        # It goes on to the next deal; letters of the one ahead are thrown away, their lives are not.
        world.run([("bring", 0)] * 6)
        self.assertEqual([world.letters(), world.step(("send", 0))], [(), False])
        world.step(("visit", 0, 2))
        self.assertEqual(world.letters(), ((2, 7, "visit", 1, 0, 0, 2),))

    def test_gone_is_thrown_away_behind_an_end(self):
        world = one_world(deals=((PUT,),))
        world.run(do(0, 7, 0, 2, 4) + [("send", 0), ("drop", 2, 0), ("bring", 1)])
        self.assertEqual([world.heard(), world.letters()], [(((0,), None),), ((6, 7, "end", 0, 1, ((0, 1, 1), (2, 1, 1), (4, 1, 1))),)])
        world.run([("bring", 0)] * 20)
        self.assertEqual([world.heard(), world.letters(), world.out()], [(((0,), 0),), (), ()])
        # Without an end it gives the deal up.
        world = one_world()
        world.run(do(0, 7, 0, 2, 4) + [("drop", 2, 0), ("bring", 0)])
        self.assertEqual([world.heard(), world.letters()], [(((0,), 0),), ((0, 7, "no", 0), (4, 7, "no", 0))])

    def test_gone_of_a_site_that_it_neither_counts_nor_awaits(self):
        world = one_world()
        world.run([("visit", 0, 0), ("visit", 0, 2), ("cut", 0, 0), ("rise", 0), ("bring", 0), ("bring", 1)])
        self.assertEqual([world.heard(), world.letters()], [(((), None),), ((2, 7, "visit", 0, 0, 0, 1),)])
        # Its life is known all the same.
        world.run([("bring", 0), ("bring", 0), ("leave", 0), ("bring", 0), ("visit", 0, 0)])
        self.assertEqual(world.letters(), ((0, 7, "visit", 0, 0, 1, 2),))

    def test_a_visit_bears_the_life_of_the_last_note(self):
        world = one_world(deals=((PUT, TAKE),))
        world.run(do(0, 7, 0, 2, 4) + [("cut", 2, 0), ("rise", 2), ("visit", 0, 2)])
        self.assertEqual(world.letters(), ((2, 7, "visit", 0, 1, 0, 1),))
        world.run([("bring", 0), ("bring", 0)])
        self.assertEqual([world.heard(), world.letters()], [(((0,), 0),), ((0, 7, "no", 0), (4, 7, "no", 0))])

    def test_the_end_stays_as_it_was_sent_first(self):
        world = one_world(hands=[[[PUT]], [[TAKE]]])
        world.run(do(0, 7, 0, 2, 4) + [("send", 0), ("lose", 0), ("cut", 6, 0), ("rise", 6), ("send", 0)])
        wanted = (6, 7, "end", 0, 1, ((0, 1, 1), (2, 1, 1), (4, 1, 1)))
        self.assertEqual(world.letters(), (wanted,))
        world.run([("bring", 0)])
        self.assertEqual(world.letters(), ((7, 6, "told", 0, 0, 2),))
        world.run([("send", 0), ("twice", 0), ("bring", 0)])
        self.assertEqual([world.heard()[0], world.letters()], [((0,), 0), (wanted, (7, 6, "told", 0, 0, 2))])
        # No sites are asked: the marks are left to again.
        world.run([("bring", 0), ("bring", 0), ("bring", 0), ("again", 0)])
        self.assertEqual([world.letters(), world.step(("bring", 0)), world.letters()],
                         [((7, 0, "still", 0, 0, 0, 1),), True, ((0, 7, "no", 0),)])

    def test_still(self):
        world = one_world(deals=((PUT,), (TAKE,)))
        world.run([("visit", 0, 0), ("bring", 0), ("again", 0), ("twice", 1), ("bring", 0)])
        # It counts the site in just this number and try: nothing; behind a leave it is left.
        self.assertEqual([world.step(("bring", 0)), len(world.letters())], [True, 1])
        world.run([("leave", 0), ("lose", 1), ("bring", 0)])
        self.assertEqual(world.letters(), ((0, 7, "leave", 0, 0, 0, ()),))
        world.run([("bring", 0)] + do(0, 7, 0, 2, 4) + [("again", 2), ("bring", 0)])
        self.assertEqual(world.letters(), ())
        # A site that it visited in vain is left, also when a note of the deal went elsewhere.
        world = one_world(deals=((PUT,), (TAKE,)))
        world.run([("visit", 0, 0), ("bring", 0), ("lose", 0)] + see(0, 2, 4) + [("decide", 0, 3), ("again", 0), ("bring", 2)])
        self.assertEqual(world.letters()[2:], ((0, 7, "leave", 0, 0, 0, ()),))
        world.run([("lose", 2)] + [("bring", 0)] * 4 + end(0, 2) + [("again", 0), ("bring", 0)])
        self.assertEqual([world.heard()[0], world.letters()], [((0,), 1), ((0, 7, "leave", 0, 0, 0, ()),)])
        # Of a deal that heard no it tells no.
        world = one_world(deals=((PUT,), (TAKE,)))
        world.run(see(0, 0, 2) + [("drop", 2, 0), ("bring", 0), ("lose", 0), ("again", 0), ("bring", 0)])
        self.assertEqual([world.heard()[0], world.letters()], [((), 0), ((0, 7, "no", 0),)])

    def test_a_shown_that_comes_twice(self):
        world = one_world(deals=((PUT, PUT),))
        world.run([("visit", 0, 0), ("bring", 0), ("twice", 0), ("twice", 0), ("twice", 0), ("bring", 0), ("bring", 0)])
        self.assertEqual([letter[2] for letter in world.letters()], ["shown", "shown"])
        world.run([("leave", 0), ("bring", 0)])
        # It is of the try ahead: it is left.
        self.assertEqual([letter[2] for letter in world.letters()], ["shown", "leave", "leave"])
        world.run([("lose", 1), ("lose", 1)] + [("visit", 0, 0), ("bring", 1), ("bring", 1), ("visit", 0, 2), ("bring", 1), ("bring", 1)])
        self.assertEqual([letter[2] for letter in world.letters()], ["shown"])

    def test_a_shown_of_a_site_that_got_a_note(self):
        # The first visit of the next step is late; the site got a note of the number that it tells.
        world = one_world(deals=((PUT, PUT),))
        world.run([("visit", 0, 0), ("bring", 0), ("twice", 0), ("bring", 0)] + [("visit", 0, 2), ("bring", 1), ("bring", 1)])
        world.run([("decide", 0, 3), ("bring", 1), ("bring", 1), ("bring", 1), ("bring", 1)])
        self.assertEqual([letter[2] for letter in world.letters()], ["shown"])
        self.assertEqual([world.step(("bring", 0)), world.letters(), world.heard()], [True, (), (((0,), None),)])


    def test_letters_of_a_deal_that_was_heard_of(self):
        # Each letter of deal 0 that lies in the bag, while deal 1 is at its step 0 in the same way.
        world = one_world(deals=((PUT,), (PUT,)))
        world.run([("visit", 0, 0), ("bring", 0), ("twice", 0), ("bring", 0), ("visit", 0, 2), ("bring", 1), ("bring", 1)])
        world.run([("decide", 0, 3), ("bring", 1), ("twice", 2), ("bring", 2), ("bring", 1), ("bring", 2)])
        self.assertEqual([letter[2] for letter in world.letters()], ["shown", "noted"])
        world.run([("send", 0), ("bring", 2), ("bring", 2), ("bring", 2), ("bring", 2), ("bring", 2), ("twice", 4), ("bring", 4), ("bring", 2), ("bring", 2)])
        self.assertEqual([letter[2] for letter in world.letters()], ["shown", "noted", "told", "done", "done"])
        self.assertEqual(world.heard(), (((0,), 1), ((), None)))
        world.run([("lose", 3), ("lose", 3), ("visit", 0, 0)])
        # The shown of deal 0 does not count for deal 1; it is left.
        world.run([("bring", 0)])
        self.assertEqual([letter[2:6] for letter in world.letters()[2:]], [("visit", 1, 0, 0), ("leave", 0, 0, 0)])
        self.assertIs(world.step(("decide", 0, 1)), False)
        world.run([("bring", 2), ("bring", 3), ("lose", 2), ("visit", 0, 2), ("bring", 2), ("bring", 2), ("decide", 0, 3)])
        self.assertEqual([letter[2] for letter in world.letters()], ["noted", "told", "note", "note"])
        # Its noted and its told do nothing to deal 1, whose note is under way.
        world.run([("bring", 0), ("bring", 0)])
        self.assertEqual([world.step(("send", 0)), len(world.letters()), world.heard()[1]], [True, 4, ((0,), None)])

    def test_gone_and_still_of_a_deal_that_was_heard_of(self):
        world = one_world(deals=((PUT,), (PUT,)))
        world.run(see(0, 0, 2) + [("drop", 2, 0), ("twice", 0), ("bring", 0), ("lose", 1), ("visit", 0, 2), ("bring", 1), ("bring", 1)])
        self.assertEqual(([letter[2] for letter in world.letters()], world.heard()), (["gone"], (((), 0), ((), None))))
        # Deal 1 counts the very site that says that deal 0 is gone.
        world.run([("bring", 0)])
        self.assertEqual((world.letters(), world.heard()[1]), ((), ((), None)))
        world.run([("visit", 0, 4), ("bring", 0), ("bring", 0)])
        self.assertIs(world.step(("decide", 0, 3)), True)

    def test_a_noted_of_an_earlier_step(self):
        world = one_world(deals=((PUT, PUT),))
        world.run(see(0, 0, 2) + [("decide", 0, 3), ("bring", 0), ("bring", 0), ("twice", 0), ("bring", 0), ("bring", 0)])
        self.assertEqual([letter[2:5] for letter in world.letters()], [("noted", 0, 0)])
        world.run([("visit", 0, 0), ("bring", 1), ("bring", 1), ("visit", 0, 2), ("bring", 1), ("bring", 1), ("decide", 0, 3)])
        # The note of the step 1 to the site 0 is not answered by it.
        world.run([("bring", 0), ("lose", 0), ("lose", 0), ("send", 0)])
        self.assertEqual([letter[:5] for letter in world.letters()], [(0, 7, "note", 0, 1), (2, 7, "note", 0, 1)])

    def test_what_a_deal_knows_goes_along(self):
        # A take looks everywhere, and is noted at the site 0; the put behind it looks at the site 1 alone, where nothing lies.
        world = one_world(deals=((PUT,), (TAKE, PUT)), spread=FEW, sites=(0, 1, 2))
        world.run(do(0, 1, 2) + end(0, 1) + do(0, 1, 0, 1, 2) + see(0, 1) + [("decide", 0, 1)])
        self.assertEqual(world.letters(), ((1, 7, "note", 1, 1, 0, 1, 0, 0, 3, 1, ((0, 0, 0, 0, 1), (1, 0, 1, 0, 2))),))
        world.run([("bring", 0)] * 2 + end(0, 3))
        self.assertEqual([record for record in world.log(0) if record[0] == "do"][-1], ("do", 1, 0, 0, 3, (1,), (1,), ((0, 1),)))
        # What a try that was left has seen is not known.
        world = one_world(deals=((PUT,), (PUT,)), spread=FEW, sites=(0, 1, 2))
        world.run(do(0, 1, 2) + end(0, 1) + see(0, 2) + [("leave", 0), ("bring", 0)] + see(0, 1) + [("decide", 0, 1)])
        self.assertEqual(world.letters(), ((1, 7, "note", 1, 0, 1, 1, 0, 0, 1, 1, ()),))


class Bars(Refusing):

    def test_what_bars(self):
        # Who puts, at one site, and who takes, at all three.
        hands = [[[PUT]], [[TAKE]]]
        for pairs, others in (([], (0,)), ([(1, 0)], ()), ([(0, 1)], (0,))):
            world = World(Program([(FEW, (0, 1, 2))], hands, pairs))
            world.run(do(0, 1, 1) + see(1, 0, 1, 2) + [("decide", 1, 7)])
            wanted = tuple((site, 8, "leave", 1, 0, 0, others if site == 1 else ()) for site in (0, 1, 2))
            self.assertEqual([world.letters(), world.waits()], [wanted, () if others else ((1, 0),)])
            # Behind a leave the next try begins.
            self.assertEqual([world.step(("leave", 1)), world.step(("decide", 1, 7)), world.step(("visit", 1, 0))], [False, False, True])
            world.run([("bring", 0)] * 9)
            self.assertEqual(world.heard()[0][1], 0 if others else None)
            self.assertEqual(world.waits(), () if others else ((1, 0),))

    def test_a_ready_deal_bars(self):
        world = World(Program([(FEW, (0, 1, 2))], [[[PUT]], [[TAKE]], [[PUT]]], [(1, 0)]))
        world.run(do(0, 1, 1) + [("send", 0), ("bring", 0), ("bring", 0), ("lose", 0)] + see(1, 0, 1, 2))
        # Deal 0 is ready at the site 1, and the teller does not know it.
        self.assertEqual([world.step(("decide", 1, 7)), world.letters(), world.waits()],
                         [True, tuple((site, 8, "leave", 1, 0, 0, ()) for site in (0, 1, 2)), ()])
        world.run([("bring", 0)] * 3 + see(2, 0) + [("decide", 2, 1)])
        # Who does not come there is not barred.
        self.assertEqual(world.heard()[2], ((0,), None))
        # A ready deal bars a do that goes beside its own, too.
        world.run([("bring", 0)] * 2 + end(2, 1))
        world = World(Program([(FEW, (0, 1, 2))], [[[PUT]], [[PUT]]]))
        world.run(do(0, 1, 1) + [("send", 0), ("bring", 0), ("bring", 0), ("lose", 0)] + see(1, 1))
        self.assertEqual([world.step(("decide", 1, 1)), world.letters()], [True, ((1, 8, "leave", 1, 0, 0, ()),)])

    def test_what_goes_beside_does_not_bar(self):
        world = World(Program([(FEW, (0, 1, 2))], [[[PUT]], [[PUT]]]))
        world.run(do(0, 1, 1) + do(1, 1, 1))
        self.assertEqual([world.heard(), world.letters()], [(((0,), None), ((0,), None)), ()])
        # Both are at work at the site 1; neither sees the other; the later one has the greater date.
        world.run(end(1, 1) + end(0, 1))
        self.assertEqual([record[4] for record in world.log(0) if record[0] == "do"], [1, 2])
        self.assertEqual(world.order(), (1, 0))

    def test_the_least_answer_that_is_clear_and_near(self):
        # Up and down go beside; read does not go beside up.
        kind = counter(3)
        rows = [(ask, answer, 2 if ask == 2 else 1, 1 if ask < 2 else 0) for ask, answer in
                ((0, 0), (1, 0), (2, 1), (2, 2), (2, 3), (2, 4))]
        spread = Spread(kind, 2, rows)
        world = World(Program([(spread, (0, 1))], [[[(0, 0)], [(0, 0)]], [[(0, 2)]]]))
        world.run(do(0, 1, 0) + end(0, 1) + do(0, 1, 1) + end(0, 1) + see(1, 0))
        # It must look at both sites to read; that nobody bars is not enough.
        self.assertEqual([world.step(("decide", 1, 0)), world.letters(), world.waits()], [False, (), ()])
        world.run(see(1, 1))
        self.assertIs(world.step(("decide", 1, 0)), True)
        self.assertEqual(world.heard()[2][0], (3,))

    def test_waits_end(self):
        def stuck():
            world = World(Program([(FEW, (0, 1, 2))], [[[PUT]], [[TAKE], [PUT]]], [(1, 0)]))
            world.run(do(0, 1, 1) + see(1, 0, 1, 2) + [("decide", 1, 7)] + [("bring", 0)] * 3)
            self.assertEqual(world.waits(), ((1, 0),))
            return world
        world = stuck()
        # A try that is left changes nothing of it; the holder's yes does.
        world.run(see(1, 0) + [("leave", 1), ("bring", 0)])
        self.assertEqual(world.waits(), ((1, 0),))
        world.run(end(0, 1)[:-1])
        self.assertEqual([world.heard()[0][1], world.waits()], [1, ()])
        # So does an answer, and a no of the waiter.
        world = stuck()
        world.run([("drop", 1, 0), ("lose", 0)] + see(1, 0, 1, 2))
        self.assertEqual([world.heard()[0][1], world.waits()], [None, ((1, 0),)])
        self.assertEqual([world.step(("decide", 1, 7)), world.heard()[1], world.waits()], [True, ((1,), None), ()])
        world = stuck()
        world.run([("visit", 1, 0), ("bring", 0), ("bring", 0), ("drop", 0, 1), ("bring", 0)])
        self.assertEqual([world.heard()[1][1], world.waits()], [0, ()])
        # A later try that is barred by a ready mark alone is its last one that was barred.
        world = stuck()
        world.run([("send", 0), ("bring", 0), ("bring", 0), ("lose", 0)] + see(1, 0, 1, 2) + [("decide", 1, 7)])
        self.assertEqual(world.waits(), ())

    def test_a_view_that_cannot_be_played(self):
        # Two deals take the coin that both have seen, and neither hears of the other; who sees both has no answer.
        wrong = Spread(BOX, 2, [(0, 0, 1, 1), (1, 0, 1, 1), (1, 1, 1, 0)])
        world = World(Program([(wrong, (0, 1))], [[[PUT], [TAKE], [TAKE], [TAKE]]]))
        world.run(do(0, 3, 0, 1) + end(0, 2) + do(0, 1, 0) + end(0, 1) + do(0, 1, 1) + end(0, 1) + see(0, 0, 1))
        self.assertEqual([world.step(("decide", 0, 3)), world.letters(), world.heard()],
                         [False, (), (((0,), 1), ((0,), 1), ((0,), 1), ((), None))])
        self.assertEqual([world.calm(), world.heard()[3], world.step(("leave", 0))], [2, ((), None), False])


class Steps(Refusing):

    def test_letters(self):
        world = one_world()
        self.assertEqual([world.step((word, 5)) for word in ("bring", "lose", "twice")], [False] * 3)
        world.run([("visit", 0, 0), ("visit", 0, 2), ("visit", 0, 4)])
        self.assertEqual([world.step(("twice", 4)), [letter[0] for letter in world.letters()]], [True, [0, 2, 4, 2]])
        self.assertEqual([world.step(("lose", 10 ** 60 + 2)), [letter[0] for letter in world.letters()]], [True, [0, 2, 2]])
        self.assertEqual([world.step(("bring", 4)), [letter[0] for letter in world.letters()]], [True, [0, 2, 7]])

    def test_a_hundred_letters(self):
        world = one_world()
        world.run([("visit", 0, 0)] + [("twice", 0)] * 98 + [("visit", 0, 2)])
        self.assertEqual((len(world.letters()), world.letters()[-1][0]), (100, 2))
        # What comes beyond is lost; that it was sent counts all the same.
        full = world.letters()
        self.assertEqual([world.step(step) for step in (("twice", 0), ("visit", 0, 4), ("send", 0), ("again", 0))], [True, True, True, False])
        self.assertEqual(world.letters(), full)
        self.assertIs(world.step(("leave", 0)), True)
        self.assertEqual(world.letters(), full)
        # There is room again for one that comes of the one that was taken out.
        self.assertEqual([world.step(("bring", 99)), len(world.letters()), world.letters()[-1][2]], [True, 100, "shown"])
        self.assertGreater(world.calm(), 0)
        self.assertEqual((world.letters(), world.heard()), ((), (((0,), 1),)))

    def test_cuts_fuses_and_rises(self):
        world = one_world()
        for node in (1, 3, 5):
            self.assertEqual([world.step((word, node) + more) for word, more in (("cut", (0,)), ("fuse", (1,)), ("rise", ()), ("again", ()))],
                             [False] * 4)
        for node in (0, 2, 4, 6):
            self.assertEqual([world.step(("rise", node)), world.step(("fuse", node, 0)), world.step(("fuse", node, 9))], [False, False, True])
            self.assertEqual([world.step(("cut", node, 0)), world.step(("cut", node, 5)), world.step(("fuse", node, 1))], [True, True, False])
        self.assertEqual([world.out(), world.lives()], [(0, 2, 4, 6), (1, 1, 1, 1)])
        self.assertEqual([world.step(("rise", 6)), world.step(("rise", 2)), world.out(), world.lives()], [True, True, (0, 4), (1, 2, 1, 2)])
        # A node whose plug is out loses what is brought.
        world.run([("visit", 0, 0), ("bring", 0)])
        self.assertEqual([world.letters(), world.step(("again", 0)), world.step(("drop", 0, 0))], [(), False, False])

    def test_cuts_land_writes_by_bits(self):
        for bits, kept in ((0, 0), (1, 1), (2, 0), (2 ** 40, 0), (2 ** 40 + 1, 1)):
            world = one_world(deals=((PUT,), (TAKE,)))
            world.run(do(0, 7, 0, 2, 4) + [("send", 0), ("bring", 0), ("fuse", 0, 2), ("bring", 0)])
            # Its do waits, and its ready, as the plug goes out at the flush.
            self.assertEqual((world.out(), world.step(("cut", 0, bits * 3))), ((0,), True))
            world.run([("rise", 0), ("again", 0)])
            self.assertEqual(world.letters()[-1][2] == "what", kept == 1)

    def test_a_fuse_that_goes_out_as_a_node_comes_up(self):
        world = one_world()
        world.run([("cut", 0, 0)])
        self.assertIs(world.step(("fuse", 0, 1)), False)
        # While it is up the fuse waits for the next write: the hold.
        world.run([("rise", 0), ("fuse", 0, 1)])
        world.run([("visit", 0, 0), ("bring", 0), ("bring", 0), ("leave", 0), ("bring", 0)])
        self.assertEqual([world.out(), world.lives()], [(), (2, 1, 1, 1)])

    def test_drop_again_and_quit(self):
        world = one_world(hands=[[[PUT]], [[TAKE]]])
        self.assertEqual([world.step(step) for step in (("drop", 0, 0), ("drop", 0, 7), ("quit", 0), ("quit", 7), ("again", 0), ("again", 6))],
                         [False] * 6)
        world.run(see(0, 0, 2))
        self.assertEqual([world.step(("again", 0)), world.letters()], [True, ((7, 0, "still", 0, 0, 0, 1),)])
        self.assertEqual([world.step(("drop", 0, 0)), world.step(("drop", 0, 0)), world.letters()[1:]], [True, False, ((7, 0, "gone", 0, 1),)])
        world = one_world()
        world.run(do(0, 7, 0, 2, 4) + [("send", 0), ("bring", 0)])
        self.assertEqual([world.step(("again", 6)), world.letters()], [True, tuple((site, 6, "hold", 0, 1, 1) for site in (0, 2, 4)) * 2])
        self.assertEqual([world.step(("quit", 0)), world.step(("quit", 0)), world.letters()[6:]],
                         [True, False, ((0, 6, "no", 0), (2, 6, "no", 0), (4, 6, "no", 0), (7, 6, "told", 0, 0, 1))])

    def test_counts(self):
        world = one_world()
        self.assertEqual(world.run([("send", 0), ("visit", 0, 0), ("visit", 7, 0), ("bring", 3), ("rise", 6), ("cut", 5, 0)]), 2)
        self.assertEqual(world.run(()), 0)

    def test_2000_steps(self):
        world = one_world()
        self.assertEqual(world.run([("cut", 0, 0)] * 2000), 2000)
        self.refuses(BadScript("script"), world.run, [("cut", 0, 0)] * 2001)

    def test_errors_change_nothing(self):
        for value in (None, FEW, World, ((FEW, (0, 1, 2)),), Odd()):
            self.refuses(BadValue("program"), World, value)
            self.refuses(BadValue("world"), story, value)
        world = one_world()
        world.run(see(0, 0, 2))
        told = self.all_told(world)
        for step in NO_LISTS + [(), ("send",), ("send", 8), ("send", True), ("cut", 7, 0), ("visit", 0, 6), ("nothing", 0), ("Send", 0),
                                ("drop", 6, 0), ("bring", -1), ("send", 0, 0), [("send", 0)]]:
            self.refuses(BadScript("told"), world.step, step)
            self.refuses(BadScript("script"), world.run, [("visit", 0, 4), step])
        for script in NO_LISTS:
            self.refuses(BadScript("script"), world.run, script)
        for value in NO_INTEGERS + [-1, 1]:
            self.refuses(BadNumber("thing"), world.log, value)
        self.assertEqual(self.all_told(world), told)
        self.assertEqual([world.step(told=["visit", 0, 4]), world.run(script=[["bring", 0]]), world.log(thing=0)], [True, 1, ()])

    def all_told(self, world):
        return (world.letters(), world.heard(), world.lives(), world.out(), world.waits(), world.weave().events, world.order())

    def test_no_classes_of_their_own(self):
        world = one_world()
        world.run(OwnList([OwnList([OwnStr("visit"), OwnInt(0), OwnInt(2)]), ["bring", OwnInt(0)], ["bring", 0]]))
        world.run([[OwnStr(step[0])] + [OwnInt(item) for item in step[1:]] for step in do(0, 7, 4) + [("bring", 0)] * 2 + end(0, 2)])
        self.assertTrue(plain(self.all_told(world)))
        self.assertTrue(plain(world.log(0)) and plain(story(world)) and plain(world.settled().events))
        self.assertEqual(world.heard(), (((0,), 1),))


class Happens(Refusing):

    def two_things(self):
        things = [(MAJORITY, (0, 1, 2)), (majority(tickets(2), 1), (5,)), (SINGLE, (4,))]
        return World(Program(things, [[[(0, 0), (1, 0), (0, 1)]], [[(0, 1)]]]))

    def test_readies_yeses_and_settled(self):
        world = self.two_things()
        world.run(do(0, 3, 0, 1) + do(0, 1, 5) + do(0, 3, 1, 2))
        asks = (("ask", 0, 0, 0), ("answer", 0, 0, 0), ("ask", 1, 0, 0), ("answer", 1, 0, 0), ("ask", 0, 0, 1), ("answer", 0, 0, 0))
        self.assertEqual(world.weave().events, asks)
        world.run([("send", 0), ("bring", 0)])
        self.assertEqual([letter[4:] for letter in world.letters()], [(1, 1), (2, 1), (1, 1), (1, 1)])
        world.run([("bring", 0), ("bring", 0)])
        self.assertEqual(world.weave().events, asks)
        # A thing is ready for it when all sites are that got a note of it.
        world.run([("bring", 0)])
        self.assertEqual(world.weave().events, asks + (("ready", 0, 0),))
        world.run([("bring", 0)])
        readies = asks + (("ready", 0, 0), ("ready", 1, 0))
        self.assertEqual((world.weave().events, world.settled().events, world.order()), (readies, readies, ()))
        world.run([("bring", 0)] * 4)
        # The teller has decided; its yeses are under way.
        self.assertEqual([world.weave().events, world.settled().events], [readies, readies + (("yes", 0, 0), ("yes", 1, 0))])
        self.assertEqual((world.order(), world.heard()[0]), ((0,), ((0, 0, 0), None)))
        world.run([("lose", 0), ("bring", 0)])
        self.assertEqual(world.weave().events, readies + (("yes", 0, 0),))
        self.assertEqual(world.settled().events, readies + (("yes", 0, 0), ("yes", 1, 0)))
        world.run([("bring", 1)])
        self.assertEqual(world.settled(), world.weave())
        self.assertEqual(story(world)[-4:], ("thing 0 is ready for deal 0", "thing 1 is ready for deal 0", "yes for deal 0 at thing 0",
                                             "yes for deal 0 at thing 1"))
        self.assertEqual(story(world=world)[2:6], ("deal 0 asks thing 1: draw", "thing 1 answers deal 0: n0", "deal 0 asks thing 0: take",
                                                   "thing 0 answers deal 0: ok"))
        self.assertIsInstance(world.settled(), Weave)
        self.assertEqual(world.weave().kinds, (BOX, tickets(2), BOX))
        self.assertEqual([world.log(1), world.log(2)], [(("do", 0, 0, 0, 1, (0,), (0,), ()), ("ready", 0), ("yes", 0)), ()])

    def test_events_that_sites_show_as_they_come_up(self):
        world = one_world(spread=SINGLE, sites=(3,))
        world.run(do(0, 1, 3) + [("send", 0), ("bring", 0), ("fuse", 3, 2), ("bring", 0)])
        self.assertEqual((world.out(), [event[0] for event in world.weave().events]), ((3,), ["ask", "answer"]))
        # Both writes land: it shows its ready when it comes up.
        world.run([("cut", 3, 3), ("rise", 3)])
        self.assertEqual([event[0] for event in world.weave().events], ["ask", "answer", "ready"])
        world.run([("again", 3), ("bring", 0), ("again", 6), ("bring", 0), ("bring", 0), ("fuse", 3, 2), ("bring", 0)])
        self.assertEqual((world.out(), world.heard()), ((3,), (((0,), None),)))
        self.assertEqual([event[0] for event in world.settled().events], ["ask", "answer", "ready", "yes"])
        self.assertEqual([event[0] for event in world.weave().events], ["ask", "answer", "ready"])
        world.run([("cut", 3, 1), ("rise", 3)])
        self.assertEqual([event[0] for event in world.weave().events], ["ask", "answer", "ready", "yes"])

    def test_noes(self):
        # A no of the teller is written down where the thing has its ready, when the first site takes it.
        world = self.two_things()
        world.run(do(0, 3, 0, 1) + do(0, 1, 5) + do(0, 3, 1, 2) + [("send", 0)] + [("bring", 0)] * 4 + [("quit", 0)])
        self.assertEqual([letter[2] for letter in world.letters()], ["hold", "held", "held", "held", "no", "no", "no", "no", "told"])
        world.run([("bring", 5)])
        self.assertEqual(world.weave().events[-2:], (("ready", 0, 0), ("no", 0, 0)))
        world.run([("bring", 4), ("bring", 4)])
        self.assertEqual(world.weave().events[-1], ("no", 0, 0))
        # The site 5 is not ready for it: its no is written down when the hand hears it.
        world.run([("bring", 4)])
        self.assertEqual(world.weave().events[-1], ("no", 0, 0))
        world.run([("bring", 4)])
        self.assertEqual(world.weave().events[-2:], (("no", 0, 0), ("no", 1, 0)))
        # A hold that is late makes it ready nowhere: it is over there.
        world.run([("bring", 0)] * 4)
        self.assertEqual((world.weave().events[-1], world.heard()[0]), (("no", 1, 0), ((0, 0, 0), 0)))
        # Where nothing was answered no no is written down.
        self.assertEqual([event[1] for event in world.weave().events if event[0] == "no"], [0, 1])

    def test_a_late_hold_behind_a_no(self):
        world = one_world(spread=SINGLE, sites=(3,), deals=((PUT,), (TAKE,)))
        world.run(do(0, 1, 3) + [("send", 0), ("bring", 0), ("quit", 0), ("bring", 2)])
        self.assertEqual((world.heard()[0], world.weave().events[-1]), (((0,), 0), ("no", 0, 0)))
        world.run([("bring", 0)])
        # The site is ready for it now, but the thing is not: there is a no.
        self.assertEqual(([letter[2] for letter in world.letters()], world.weave().events[-1]), (["no", "held"], ("no", 0, 0)))
        world.run([("bring", 0), ("bring", 0)])
        self.assertEqual((world.weave().events[-1], len(world.weave().events)), (("no", 0, 0), 3))
        self.assertGreater(world.calm(), 0)
        self.assertEqual(world.heard(), (((0,), 0), ((1,), 1)))

    def test_a_no_of_several_things(self):
        world = self.two_things()
        world.run(do(0, 3, 0, 1) + do(0, 1, 5) + [("drop", 5, 0), ("bring", 0)])
        self.assertEqual(world.weave().events[-2:], (("no", 0, 0), ("no", 1, 0)))
        self.assertEqual(story(world)[-2:], ("no for deal 0 at thing 0", "no for deal 0 at thing 1"))

    def test_a_log_of_the_dealt(self):
        world = World(Program([(MAJORITY, (1, 3, 5))], [[[PUT]], [[TAKE]]], [(1, 0)]))
        world.run(do(0, 3, 1, 5))
        self.assertEqual(world.log(0), ())
        world.run(end(0, 2)[:-4])
        self.assertEqual(world.log(0), (("do", 0, 0, 0, 1, (0, 2), (0, 2), ()), ("ready", 0), ("yes", 0)))


class Calm(Refusing):

    def test_rounds(self):
        self.assertEqual(one_world(deals=()).calm(), 0)
        world = one_world()
        self.assertEqual([world.calm(), world.heard(), world.calm()], [2, (((0,), 1),), 0])
        self.assertEqual(world.log(0), (("do", 0, 0, 0, 1, (0, 1, 2), (0, 1, 2), ()), ("ready", 0), ("yes", 0)))
        # Nodes that are out come up, though nothing else is left to do.
        world.run([("cut", 0, 0), ("cut", 6, 0)])
        self.assertEqual([world.calm(), world.out(), world.lives()], [1, (), (2, 1, 1, 2)])
        world = one_world(deals=((PUT,), (TAKE,), (TAKE,)))
        self.assertEqual([world.calm(), world.heard()], [4, (((0,), 1), ((0,), 1), ((1,), 1))])

    def test_a_turn_ends_when_the_deal_is_given_up(self):
        # Deal 0 got a note at a site that was cut behind it: its next visit there is told gone. Deal 1 waits for the next round.
        world = one_world(deals=((PUT, PUT), (TAKE,)))
        world.run(do(0, 7, 0, 2, 4) + [("cut", 0, 0)])
        self.assertEqual([world.calm(), world.heard()], [3, (((0,), 0), ((1,), 1))])
        # Given up as the hand sends, its next deal has its turn at once.
        world = one_world(deals=((PUT,), (TAKE,)))
        world.run(see(0, 0, 2) + [("decide", 0, 3), ("cut", 0, 0), ("rise", 0)] + [("lose", 0)] * 2)
        self.assertEqual([world.calm(), world.heard()], [2, (((0,), 0), ((1,), 1))])

    def test_what_is_left_at_sites_when_all_are_heard_of(self):
        # A yes that was lost: the site is ready still, and asks.
        world = one_world(spread=SINGLE, sites=(3,))
        world.run(do(0, 1, 3) + [("send", 0), ("bring", 0), ("bring", 0), ("bring", 0), ("lose", 0), ("bring", 0)])
        self.assertEqual([world.heard(), world.letters(), len(world.weave().events)], [(((0,), 1),), (), 3])
        self.assertEqual([world.calm(), world.calm(), world.weave().events[-1]], [1, 0, ("yes", 0, 0)])
        # A no that was lost: the deal is at work there still.
        world = one_world()
        world.run(see(0, 0, 2) + [("drop", 0, 0), ("bring", 0), ("lose", 0)])
        self.assertEqual([world.heard(), world.letters(), world.calm(), world.calm()], [(((), 0),), (), 1, 0])

    def test_a_letter_in_the_bag_is_something(self):
        things = [(SINGLE, (0,)), (SINGLE, (1,))]
        world = World(Program(things, [[[(0, 0), (1, 0)]], [[(1, 1), (0, 1)]]], [(0, 1), (1, 0)]))
        world.run(do(0, 1, 0) + do(1, 1, 1))
        self.assertEqual([world.calm(), world.calm()], [1, 1])
        world.step(("again", 0))
        self.assertEqual([world.calm(), world.calm(), world.letters()], [2, 1, ()])

    def test_what_lies_in_the_bag_is_brought_ahead_of_all_hands(self):
        # The last noted lies there: the deal ends in the first round.
        world = one_world(spread=SINGLE, sites=(3,))
        world.run(see(0, 3) + [("decide", 0, 1), ("bring", 0)])
        self.assertEqual([[letter[2] for letter in world.letters()], world.calm(), world.heard()], [["noted"], 1, (((0,), 1),)])

    def test_fuses_are_taken_out(self):
        world = one_world()
        world.run([("fuse", 0, 1), ("fuse", 6, 2), ("fuse", 2, 3)])
        self.assertEqual([world.calm(), world.heard(), world.lives()], [2, (((0,), 1),), (1, 1, 1, 1)])

    def test_two_that_wait_for_one_another(self):
        things = [(SINGLE, (0,)), (SINGLE, (1,))]
        hands = [[[(0, 0), (1, 0)]], [[(1, 1), (0, 1)]]]
        for pairs, heard in (([(0, 1), (1, 0)], (None, None)), ([(0, 1)], (0, 1)), ([(1, 0)], (1, 0)), ([], (1, 0))):
            world = World(Program(things, hands, pairs))
            world.run(do(0, 1, 0) + do(1, 1, 1))
            rounds = world.calm()
            self.assertEqual(tuple(told for _, told in world.heard()), heard, pairs)
            self.assertEqual(world.waits(), ((0, 1), (1, 0)) if heard[0] is None else ())
            if heard[0] is None:
                self.assertEqual((rounds, world.calm(), world.heard()), (1, 1, (((0,), None), ((1,), None))))
