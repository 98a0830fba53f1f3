"""Things that keep their own rule, and the order by last readies."""

from fewvisits.errors import BadValue, TooMany
from fewvisits.joins import Lax, joined, shows_joined
from fewvisits.own import keeps
from fewvisits.orders import Fits
from fewvisits.papers import Denial, Paper
from fewvisits.weaves import Weave, at, last_order
from tests.naive import NO_LISTS, Odd, OwnInt, OwnList, plain
from tests.naive_deals import holds, leaves, orders_of, seen_at, some_woven, there
from tests.refusing import Refusing
from tests.test_orders import BANK, COIN, GATE, KINDS, mild

BOTH = Weave([COIN, GATE], [("ask", 0, 0, 0), ("answer", 0, 0, 0), ("ask", 0, 1, 0), ("answer", 0, 1, 1), ("ask", 1, 1, 0),
                            ("answer", 1, 1, 0), ("ready", 0, 1), ("ready", 1, 1), ("yes", 1, 1), ("ask", 1, 0, 0),
                            ("answer", 1, 0, 1), ("ready", 1, 0), ("ready", 0, 0), ("yes", 0, 0), ("yes", 1, 0)])


def at_each(kinds, events):
    """For each thing the events there, with a yes behind them for each deal that has one only elsewhere."""
    ended = sorted({event[2] for event in events if event[0] == "yes"})
    found = []
    for thing in range(len(kinds)):
        here = there(events, thing)
        occurring = {event[1] for event in here}
        found.append(here + [("yes", deal) for deal in ended if deal in occurring and ("yes", deal) not in here])
    return found


def breaks_at(kind, events):
    """The orders at one thing that hold what is seen there and do not fit there."""
    ended = sorted({event[1] for event in events if event[0] == "yes"})
    return [order for order in orders_of(ended) if holds(seen_at(events), order) and leaves(kind, events, order) is None]


class Joined(Refusing):

    def test_random(self):
        found = [0, 0]
        shown = [0, 0]
        for seed in range(150):
            kinds = [mild(kind) if seed % 3 else kind for kind in KINDS[seed % 3:seed % 3 + 1 + seed % 4]]
            events = some_woven(seed, kinds, 10 + seed % 25, noes=seed % 4 == 0)
            weave = Weave(kinds, events)
            here = at_each(kinds, events)
            broken = [breaks_at(kind, told) for kind, told in zip(kinds, here)]
            wrong = [thing for thing in range(len(kinds)) if broken[thing]]
            told = joined(weave)
            found[not wrong] += 1
            self.assertEqual(told, Lax(wrong[0], broken[wrong[0]][0]) if wrong else Fits(last_order(weave)))
            self.assertTrue(plain(told.parts))
            self.assertIs(shows_joined(weave, told), True)
            for order in orders_of(weave.ended):
                right = all(holds(seen_at(told), order) and leaves(kind, told, [d for d in order if ("yes", d) in told])
                            is not None for kind, told in zip(kinds, here))
                shown[right] += 1
                self.assertIs(shows_joined(weave, Fits(list(order))), right)
                for thing in range(len(kinds)):
                    self.assertIs(shows_joined(weave, Lax(thing, list(order))), order in broken[thing])
            for thing in range(len(kinds)):
                for order in broken[thing]:
                    self.assertIs(shows_joined(weave, Lax(thing, order)), True)
        self.assertGreater(min(found), 25)
        self.assertGreater(min(shown), 50)

    def test_the_first_thing_is_told(self):
        two = [event[:1] + (thing,) + event[1:] for thing in (1, 2) for event in
               [("ask", 0, 0), ("answer", 0, 0), ("ask", 1, 0), ("answer", 1, 1)]]
        two += [(word, thing, deal) for word in ("ready", "yes") for deal in (0, 1) for thing in (1, 2)]
        weave = Weave([COIN] * 3, two)
        self.assertEqual(joined(weave), Lax(1, (1, 0)))
        self.assertIs(shows_joined(weave, Lax(2, (1, 0))), True)
        for thing, order in ((0, ()), (0, (1, 0)), (-1, (1, 0)), (-2, (1, 0)), (3, (1, 0)), (True, (1, 0)), (2.0, (1, 0))):
            self.assertIs(shows_joined(weave, Lax(thing, order)), False)

    def test_no_events(self):
        weave = Weave([BANK, COIN], [])
        self.assertEqual(joined(weave), Fits(()))
        self.assertIs(shows_joined(weave, Fits([])), True)
        self.assertIs(shows_joined(weave, Lax(0, ())), False)

    def test_errors(self):
        for value in (None, BOTH.events, at(BOTH, 0), Weave, Odd()):
            self.refuses(BadValue("weave"), joined, value)
            self.refuses(BadValue("weave"), shows_joined, value, None)
        self.assertEqual(joined(weave=BOTH), Lax(order=[1, 0], thing=0))
        self.assertIs(shows_joined(value=Lax(0, [1, 0]), weave=BOTH), True)

    def test_too_many(self):
        eight = [(word, 1, deal) for word in ("ready", "yes") for deal in range(8)]
        full = [("ask", 0, 9, 0), ("answer", 0, 9, 0)] * 119 + [("ready", 0, 9), ("ready", 0, 10), ("ready", 2, 9), ("yes", 2, 9)]
        for events, error in ((eight, TooMany("deals", 7)), (full, TooMany("events", 240)), (eight + full, TooMany("events", 240))):
            weave = Weave([BANK, GATE, COIN], events)
            self.refuses(error, joined, weave)
            for value in (None, Fits([]), Fits(list(range(8))), Lax(0, []), Odd()):
                self.refuses(error, shows_joined, weave, value)
        self.assertIs(bool(joined(Weave([BANK, GATE], eight[:7] + eight[8:15]))), True)

    def test_eight_deals_at_two_things(self):
        # No more than seven are ended at any one thing.
        events = [(word, deal % 2, deal) for word in ("ready", "yes") for deal in range(8)]
        weave = Weave([BANK, GATE], events)
        self.assertEqual(joined(weave), Fits(tuple(range(8))))
        self.assertIs(shows_joined(weave, Fits(list(range(7, -1, -1)))), True)

    def test_bent(self):
        calm = Weave([COIN, GATE], BOTH.events[:2] + (("ready", 0, 0), ("yes", 0, 0), ("ask", 0, 1, 0), ("answer", 0, 1, 1),
                                                      ("ready", 0, 1), ("yes", 0, 1)))
        self.assertEqual(joined(calm), Fits((0, 1)))
        self.assertIs(shows_joined(calm, Fits(OwnList([OwnInt(0), 1]))), True)
        for order in ([0], [1, 0], [0, 1, 1], [False, True], [0, True], [0.0, 1], [0, 2], None, "01", Odd(), [0, Odd()], {0: 0, 1: 1}):
            self.assertIs(shows_joined(calm, Fits(order)), False)
        self.assertTrue(keeps(at(BOTH, 1)))
        for thing, order in ((1, [1, 0]), (0, [0, 1]), (2, [1, 0]), (-1, [1, 0]), (False, [1, 0]), (0.0, [1, 0]), (None, [1, 0]),
                             ("0", [1, 0]), ([0], [1, 0]), (Odd(), [1, 0]), (0, [1]), (0, [1, 0, 0]), (0, [True, 0]),
                             (0, [1, False]), (0, [1, 0.0]), (0, None), (0, Odd()), (0, [Odd(), 0]), ([1, 0], 0)):
            self.assertIs(shows_joined(BOTH, Lax(thing, order)), False, (thing, order))
        for value in NO_LISTS + [Paper("lax", 0, (1, 0)), Denial("lax", 0, (1, 0)), Paper("fits", (0, 1)), (0, (1, 0)),
                                 keeps(at(BOTH, 0))]:
            self.assertIs(shows_joined(BOTH, value), False)
