"""Orders of a history, orders of a weave, and papers on them."""

import unittest

from fewvisits.check_orders import shows_order, shows_order_of_all
from fewvisits.errors import BadNumber, BadOrder, BadValue, TooMany
from fewvisits.histories import History
from fewvisits.kinds import Kind
from fewvisits.makers import bag, counter, purse, tickets
from fewvisits.orders import Bars, Fits, fits, holds_seen, left_by, order_for
from fewvisits.papers import Denial, Paper
from fewvisits.weaves import Weave, at, fits_all, last_order, order_of_all
from tests.naive import NO_LISTS, Odd, OwnInt, OwnList, plain
from tests.naive_deals import (bars_of, holds, leaves, orders_of, seen_at, some_events, some_woven, there)
from tests.refusing import Refusing

BANK = Kind(["take", "put"], ["done", "short", "odd"], 3, 2,
            [(0, 0, 1, 0), (0, 1, 0, 1), (1, 0, 0, 0), (1, 1, 0, 2), (2, 0, 0, 1), (2, 1, 1, 2)])
KINDS = [BANK, tickets(3), bag(2, 2), counter(2), purse(3, 1)]
GATE = tickets(3)
COIN = Kind(["take"], ["done", "short"], 2, 1, [(0, 0, 1, 0), (1, 0, 0, 0)])


def mild(kind):
    """The kind with every answer possible in the first state, so that orders fit now and then."""
    rows = {row[:3]: row[3] for row in kind.rows}
    for ask in range(len(kind.asks)):
        for answer in range(len(kind.answers)):
            rows.setdefault((kind.first, ask, answer), (kind.first + ask + answer) % kind.states)
    return Kind(kind.asks, kind.answers, kind.states, kind.first, [head + (rows[head],) for head in sorted(rows)])


def bare(many, kind=GATE):
    """A history of so many ended deals that asked nothing."""
    return History(kind, [(word, deal) for deal in range(many) for word in ("ready", "yes")])


class OneThing(Refusing):

    def test_random(self):
        met = [0, 0]
        for seed in range(120):
            kind = mild(KINDS[seed % 5]) if seed % 3 else KINDS[seed % 5]
            events = some_events(seed, kind, 24, (0, 2, 5, 9), noes=seed % 4 == 0)
            history = History(kind, events)
            orders = orders_of(history.ended)
            fitting = []
            for order in orders:
                left = leaves(kind, events, order)
                self.assertEqual(left_by(history, list(order)), left)
                self.assertIs(fits(history, order), left is not None)
                self.assertIs(holds_seen(history, order), holds(seen_at(events), order))
                if left is not None:
                    fitting.append(order)
            found = order_for(history)
            met[bool(found)] += 1
            if fitting:
                self.assertEqual(found, Fits(fitting[0]))
            else:
                bars = bars_of(orders, lambda taken: None if leaves(kind, events, taken) is not None else 0)
                self.assertEqual(found, Bars([beginning for beginning, _ in bars]))
            self.assertTrue(plain(found.parts))
            self.assertIs(shows_order(history, found), True)
            self.check_bent(history, found)
        self.assertGreater(min(met), 20)

    def check_bent(self, history, found):
        for order in orders_of(history.ended):
            self.assertIs(shows_order(history, Fits(list(order))), fits(history, order))
        if not found:
            bars = list(found.beginnings)
            for bent in ([], bars[1:], bars[:-1], bars + bars[-1:], bars + [(99,)]):
                self.assertIs(shows_order(history, Bars(bent)), bent == bars)
            if len(bars) > 1:
                self.assertIs(shows_order(history, Bars(bars[::-1])), False)

    def test_many_deals(self):
        seven, eight = bare(7), bare(8)
        self.assertEqual(order_for(seven), Fits([0, 1, 2, 3, 4, 5, 6]))
        self.refuses(TooMany("deals", 7), order_for, eight)
        for value in (Fits(list(range(8))), Bars([]), None, Odd()):
            self.refuses(TooMany("deals", 7), shows_order, eight, value)
        order = list(range(8))
        self.assertIs(fits(eight, order), True)
        self.assertEqual(left_by(eight, order), 0)
        self.assertIs(holds_seen(eight, order), True)
        self.assertIs(holds_seen(eight, order[::-1]), False)
        twelve = bare(12)
        self.assertEqual(left_by(twelve, list(range(12))), 0)

    def test_only_ended_deals_count_as_many(self):
        events = list(bare(7).events) + [("ready", 8), ("no", 9), ("ask", 10, 0)]
        self.assertEqual(order_for(History(GATE, events)).order, (0, 1, 2, 3, 4, 5, 6))

    def test_seven_deals_without_an_order(self):
        events = []
        for deal in range(7):
            events += [("ask", deal, 0), ("answer", deal, 0), ("ready", deal)]
        history = History(GATE, events + [("yes", deal) for deal in range(7)])
        found = order_for(history)
        # The second one of any order finds that the number 0 is gone.
        self.assertEqual(found, Bars([(one, other) for one in range(7) for other in range(7) if one != other]))
        self.assertIs(shows_order(history, found), True)

    def test_long_way_to_no_order(self):
        kind = counter(10)
        events = []
        for deal in range(7):
            events += [("ask", deal, 0), ("answer", deal, 0)] * 14
        events += [("ask", 3, 2), ("answer", 3, 9)]
        events += [(word, deal) for word in ("ready", "yes") for deal in range(7)]
        history = History(kind, events)
        found = order_for(history)
        self.assertEqual(bool(found), any(14 * (k + 1) % 11 == 8 for k in range(7)))
        self.assertIs(shows_order(history, found), True)

    def test_no_deal(self):
        for events in ([], [("no", 3), ("ask", 4, 0)]):
            history = History(GATE, events)
            self.assertEqual(order_for(history), Fits([]))
            self.assertEqual(left_by(history, []), 0)
            self.assertIs(fits(history, ()), True)
            self.assertIs(holds_seen(history, []), True)
            self.assertIs(shows_order(history, Fits([])), True)
            self.assertIs(shows_order(history, Bars([])), False)
            self.refuses(BadOrder("order"), fits, history, [3])

    def test_errors(self):
        history = bare(2)
        for value in (None, GATE, history.events, Odd(), True):
            for function in (holds_seen, left_by, fits):
                self.refuses(BadValue("history"), function, value, None)
            self.refuses(BadValue("history"), order_for, value)
            self.refuses(BadValue("history"), shows_order, value, None)
        for value in NO_LISTS + [[], [0], [1], [0, 0], [0, 1, 1], [0, 2], [0, True], [False, 1], [0, 1.0], [0, "1"],
                                 [0, None], [0, [1]], [[0, 1]], [0, Odd()]]:
            for function in (holds_seen, left_by, fits):
                self.refuses(BadOrder("order"), function, history, value)
        self.assertIs(fits(order=[1, 0], history=history), True)
        self.assertEqual(left_by(order=OwnList([OwnInt(1), 0]), history=history), 0)
        self.assertIs(holds_seen(order=(0, 1), history=history), True)
        self.assertEqual(order_for(history=history).order, (0, 1))

    def test_bent_papers(self):
        events = [("ask", 0, 0), ("answer", 0, 1), ("ask", 1, 0), ("answer", 1, 1)]
        history = History(GATE, events + [(word, deal) for word in ("ready", "yes") for deal in (0, 1)])
        self.assertEqual(order_for(history), Bars([[0], [1]]))
        right = Bars(beginnings=[[0], (1,)])
        self.assertIs(shows_order(history, right), True)
        self.assertIs(shows_order(value=right, history=history), True)
        for value in NO_LISTS + [Fits([0, 1]), Fits([]), Fits(None), Fits(3), Fits([0, True]), Bars([[False], [True]]),
                                 Bars([[0.0], [1]]), Bars([[1], [0]]), Bars([[0], [1], [1]]), Bars([0, 1]), Bars(None),
                                 Bars([[0], Odd()]), Bars("01"), Paper("bars", ((0,), (1,))), ((0,), (1,)), 1, True,
                                 Denial("bars", ((0,), (1,))), Bars([[0, 1], [1, 0]]), Bars([[[0], 0], [[1], 0]])]:
            self.assertIs(shows_order(history, value), False)
        good = bare(2)
        for value in [Fits([0, True]), Fits([False, 1]), Fits([0, 1.0]), Fits([0]), Fits([0, 1, 1]), Fits({0: 1}),
                      Fits(Odd()), Paper("fits", (0, 1)), (0, 1), Bars([])]:
            self.assertIs(shows_order(good, value), False)
        self.assertIs(shows_order(good, Fits(order=[OwnInt(1), 0])), True)


class ManyThings(Refusing):

    def first_wrong(self, weave, taken):
        """The first thing at which a beginning does not fit."""
        for thing, kind in enumerate(weave.kinds):
            events = there(weave.events, thing)
            occurring = {event[1] for event in events}
            if leaves(kind, events, [deal for deal in taken if deal in occurring]) is None:
                return thing
        return None

    def test_random(self):
        met = [0, 0]
        for seed in range(90):
            kinds = [mild(KINDS[(seed + k) % 5]) for k in range(1 + seed % 4)]
            events = some_woven(seed, kinds, 30, noes=seed % 5 == 0)
            weave = Weave(kinds, events)
            orders = orders_of(weave.ended)
            fitting = [order for order in orders if self.first_wrong(weave, order) is None]
            for order in orders:
                self.assertIs(fits_all(weave, list(order)), order in fitting)
                by_things = [fits(at(weave, thing), [deal for deal in order if deal in at(weave, thing).ended])
                             for thing in range(len(kinds))]
                self.assertIs(fits_all(weave, order), all(by_things))
                self.assertIs(shows_order_of_all(weave, Fits(order)), order in fitting)
            found = order_of_all(weave)
            met[bool(found)] += 1
            if fitting:
                self.assertEqual(found, Fits(fitting[0]))
            else:
                self.assertEqual(found, Bars(bars_of(orders, lambda taken: self.first_wrong(weave, taken))))
                bars = list(found.beginnings)
                for bent in ([], bars[1:], bars[:-1], bars + bars[-1:], [bar[0] for bar in bars],
                             [(bar[0], len(kinds)) for bar in bars]):
                    self.assertIs(shows_order_of_all(weave, Bars(bent)), False)
            self.assertTrue(plain(found.parts))
            self.assertIs(shows_order_of_all(weave, found), True)
        self.assertGreater(min(met), 10)

    def test_last_order(self):
        for seed in range(60):
            kinds = [mild(KINDS[(seed + k) % 5]) for k in range(1 + seed % 4)]
            events = some_woven(seed, kinds, 30, noes=seed % 5 == 0)
            weave = Weave(kinds, events)
            last = {event[2]: place for place, event in enumerate(events) if event[0] == "ready"}
            ended = sorted({event[2] for event in events if event[0] == "yes"}, key=lambda deal: last[deal])
            self.assertEqual(last_order(weave), tuple(ended))
            for thing in range(len(kinds)):
                history = at(weave, thing)
                self.assertIs(holds_seen(history, [deal for deal in ended if deal in history.ended]), True)

    def long_weave(self):
        """Two things, 240 events at each, at the first one two yeses less than deals that are ended."""
        events = [("ask", 0, 0, 0), ("answer", 0, 0, 0)] * 119 + [("ready", 0, 0)]
        events += [("ask", 1, 1, 0), ("answer", 1, 1, 0)] * 118 + [("ready", 0, 1), ("ready", 1, 1)]
        return events + [("ready", 1, 0), ("yes", 1, 0), ("yes", 1, 1)]

    def test_long_histories(self):
        kind = counter(10)
        weave = Weave([kind, kind], self.long_weave())
        self.assertEqual([len(there(weave.events, thing)) for thing in (0, 1)], [240, 240])
        self.refuses(TooMany("events", 240), at, weave, 0)
        self.assertEqual(len(at(weave, 1).events), 240)
        self.assertEqual(weave.ended, (0, 1))
        self.assertIs(fits_all(weave, [1, 0]), True)
        self.assertEqual(order_of_all(weave), Fits([0, 1]))
        self.assertIs(shows_order_of_all(weave, Fits([1, 0])), True)
        self.assertEqual(last_order(weave), (1, 0))

    def test_at_with_just_enough(self):
        events = [("ask", 0, 0, 0), ("answer", 0, 0, 0)] * 119 + [("ready", 0, 0), ("ready", 1, 0), ("yes", 1, 0)]
        self.assertEqual(at(Weave([COIN, COIN], events), 0).events[-1], ("yes", 0))
        self.assertEqual(len(at(Weave([COIN, COIN], events), 0).events), 240)
        self.refuses(TooMany("events", 240), at, Weave([COIN, COIN], events + [("no", 0, 7)]), 0)

    def test_many_deals(self):
        events = [("ready", thing, deal) for deal in range(8) for thing in (0, 1)]
        events += [("yes", 0, deal) for deal in range(8)]
        weave = Weave([GATE, COIN], events)
        self.refuses(TooMany("deals", 7), order_of_all, weave)
        for value in (Fits(list(range(8))), None):
            self.refuses(TooMany("deals", 7), shows_order_of_all, weave, value)
        self.assertIs(fits_all(weave, list(range(8))), True)
        self.assertEqual(last_order(weave), (0, 1, 2, 3, 4, 5, 6, 7))
        self.assertEqual(order_of_all(Weave([GATE, COIN], events[:-1])).order, (0, 1, 2, 3, 4, 5, 6))

    def test_seven_deals_without_an_order(self):
        events = []
        for deal in range(7):
            for thing in range(4):
                events += [("ask", thing, deal, 0), ("answer", thing, deal, 0)] * 10
            events += [("ready", thing, deal) for thing in range(4)]
        events += [("yes", 0, deal) for deal in range(7)]
        kind = counter(10)
        found = order_of_all(Weave([kind, kind, kind, kind], events))
        self.assertEqual(found.order, (0, 1, 2, 3, 4, 5, 6))
        last = Kind(["up"], ["ok", "full"], 60, 0, [(k, 0, 0, k + 1) for k in range(59)] + [(59, 0, 1, 59)])
        weave = Weave([kind, kind, kind, last], events)
        found = order_of_all(weave)
        # Five deals find room for their ten; the sixth one, whichever it is, finds one too few.
        self.assertEqual(len(found.beginnings), 7 * 6 * 5 * 4 * 3 * 2)
        self.assertEqual(found.beginnings[0], ((0, 1, 2, 3, 4, 5), 3))
        self.assertIs(shows_order_of_all(weave, found), True)

    def test_errors(self):
        weave = Weave([COIN, GATE], [("ready", 0, 4), ("yes", 0, 4)])
        for value in (None, COIN, weave.events, Odd(), History(COIN, [])):
            self.refuses(BadValue("weave"), at, value, 9)
            self.refuses(BadValue("weave"), fits_all, value, 9)
            for function in (last_order, order_of_all):
                self.refuses(BadValue("weave"), function, value)
            self.refuses(BadValue("weave"), shows_order_of_all, value, 9)
        for value in (-1, 2, True, None, 0.0, "0", [0], Odd()):
            self.refuses(BadNumber("thing"), at, weave, value)
        for value in NO_LISTS + [[], [0], [4, 4], [True], [4.0], [None], [[4]], [4, 0], [Odd()]]:
            self.refuses(BadOrder("order"), fits_all, weave, value)
        self.assertIs(fits_all(order=(4,), weave=weave), True)
        self.assertEqual(at(thing=OwnInt(1), weave=weave), History(GATE, []))
        self.assertEqual(last_order(weave=weave), (4,))
        self.assertEqual(order_of_all(weave=weave), Fits([4]))

    def test_bent_papers(self):
        events = [("ask", 1, 0, 0), ("answer", 1, 0, 1), ("ready", 1, 0), ("ready", 0, 0), ("yes", 1, 0)]
        weave = Weave([COIN, GATE], events)
        self.assertIs(shows_order_of_all(weave, Bars([[[0], 1]])), True)
        self.assertIs(shows_order_of_all(value=Bars([[[0], 1]]), weave=weave), True)
        for value in NO_LISTS + [Fits([0]), Bars([[[0], True]]), Bars([[[False], 1]]), Bars([[[0], 1.0]]), Bars([[0, 1]]),
                                 Bars([[[0], 0]]), Bars([[[0]]]), Bars([[0]]), Bars([]), Bars(None), Bars([[[0], 1]] * 2),
                                 Bars([[[0], 1, 0]]), Paper("bars", (((0,), 1),)), Denial("bars", (((0,), 1),))]:
            self.assertIs(shows_order_of_all(weave, value), False)
        for order in NO_LISTS + [[], [True], [False], [0.0], [0, 0], [1], [None], [[0]], [Odd()]]:
            self.assertIs(shows_order_of_all(weave, Fits(order)), False)
            self.assertIs(shows_order_of_all(Weave([COIN, GATE], events[2:]), Fits(order)), False)
        self.assertIs(shows_order_of_all(Weave([COIN, GATE], events[2:]), Fits([OwnInt(0)])), True)
        self.assertIs(shows_order_of_all(Weave([COIN], []), Fits([])), True)
        self.assertIs(shows_order_of_all(Weave([COIN], []), Bars([])), False)


if __name__ == "__main__":
    unittest.main()
