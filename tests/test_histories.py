"""Histories: which events can stand, and what they tell."""

import random
import unittest

from fewvisits.errors import BadEvents, BadKind, BadNumber, BadValue
from fewvisits.histories import History, operations, seen_of, waiting
from fewvisits.kinds import Kind
from fewvisits.makers import purse
from tests.naive import NO_INTEGERS, NO_LISTS, Odd, OwnInt, OwnList, OwnStr, plain
from tests.naive_deals import (done_by, ended_at, first_bad, of_deal, seen_at, some_event, some_events, unanswered)
from tests.refusing import Refusing

BANK = Kind(["take", "put"], ["done", "short", "odd"], 3, 2,
            [(0, 0, 1, 0), (0, 1, 0, 1), (1, 0, 0, 0), (1, 1, 0, 2), (2, 0, 0, 1), (2, 1, 1, 2)])
DEALS = (0, 3, 7, 11)


class Standing(Refusing):

    def test_random_events(self):
        reached = {}
        for seed in range(3000):
            dice = random.Random(seed)
            events = some_events(seed, BANK, dice.randint(0, 6), DEALS[:dice.randint(1, 2)]) if seed % 50 == 0 else []
            events += [some_event(dice, BANK, DEALS[:2]) for _ in range(dice.randint(1, 4))]
            bad = first_bad(events)
            reached[bad] = True
            if bad is None:
                self.assertEqual(History(BANK, events).events, tuple(events))
            else:
                self.refuses(BadEvents(bad), History, BANK, events)
        self.assertGreater(len(reached), 4)

    def test_each_event_behind_others(self):
        """Behind each history of many, each event of one deal stands just if it is told so."""
        tried = [("ask", 0, 0), ("ask", 0, 1), ("answer", 0, 2), ("ready", 0), ("yes", 0), ("no", 0)]
        level = [[]]
        for _ in range(5):
            longer = []
            for events in level:
                for event in tried:
                    if first_bad(events + [event]) is None:
                        History(BANK, events + [event])
                        longer.append(events + [event])
                    else:
                        self.refuses(BadEvents(len(events)), History, BANK, events + [event])
            level = longer
        self.assertTrue(level)

    def test_forms(self):
        good = [("ask", 0, 0), ("answer", 0, 2), ("ready", 11)]
        wrong = NO_LISTS + [(), ("ask",), ("ask", 1), ("ask", 1, 0, 0), ("ready",), ("ready", 0, 0), ("yes", 11, 0),
                            ("no", 1, 0), ("asked", 1, 0), ("", 1, 0), ("Ask", 1, 0), ("ask", 12, 0), ("ask", -1, 0),
                            ("ask", 1, 2), ("ask", 1, -1), ("ask", True, 0), ("ask", 1, False), ("ask", 1.0, 0),
                            ("no", 12), ("no", True), ("no", "1"), (0, 1, 0), (None, 1), (True, 1), (["ask"], 1, 0),
                            ("maybe", 1), ("", 1), ("Yes", 1), (Odd(), 1), ("ask", Odd(), 0), ("ask", 1, Odd()), ("ask", 1, None), ("ask", 1, (0,)),
                            "no", ("yes", 11, None), (b"no", 1)]
        for event in wrong:
            self.refuses(BadEvents(3), History, BANK, good + [event] + [("no", 5), None])
        open_ask = good + [("ask", 1, 0)]
        for event in (("answer", 1, 3), ("answer", 1, -1), ("answer", 1, True), ("answer", 1), ("answer", 1, 0, 0)):
            self.refuses(BadEvents(4), History, BANK, open_ask + [event])
        History(BANK, open_ask + [("answer", 1, 2)])

    def test_no_list(self):
        for value in NO_LISTS:
            self.refuses(BadEvents(0), History, BANK, value)
        for value in (None, str(BANK), Kind, True, Odd()):
            self.refuses(BadKind("kind"), History, value, value)
            self.refuses(BadKind("kind"), History, value, [("no", 99)])

    def test_no_events(self):
        empty = History(BANK, [])
        self.assertEqual((empty.events, empty.deals, empty.ended, empty.opened, empty.readied), ((), (), (), (), ()))
        self.assertEqual(seen_of(empty), ())

    def test_at_most_240(self):
        long = [("ask", 11, 0), ("answer", 11, 0)] * 120
        history = History(BANK, long)
        self.assertEqual(len(history.events), 240)
        self.assertEqual(operations(history, 11), ((0, 0),) * 120)
        for more in (("ask", 11, 0), ("no", 4), None, ("bad",)):
            self.refuses(BadEvents(240), History, BANK, long + [more])
            self.refuses(BadEvents(240), History, BANK, long + [more, more])
        self.refuses(BadEvents(100), History, BANK, long[:100] + [None] + long)

    def test_copies(self):
        events = [["ask", 0, 0], ["answer", 0, 0]]
        history = History(BANK, events)
        events[0][2] = 1
        events.append(["no", 0])
        self.assertEqual(history.events, (("ask", 0, 0), ("answer", 0, 0)))
        self.assertEqual(operations(history, 0), ((0, 0),))

    def test_no_classes_of_their_own(self):
        history = History(BANK, OwnList([OwnList([OwnStr("ask"), OwnInt(0), OwnInt(1)]), ("answer", OwnInt(0), 0),
                                         ("ready", 0), ("ask", OwnInt(4), OwnInt(1))]))
        for value in (history.events, history.deals, history.opened, history.readied, operations(history, 0),
                      waiting(history, 4)):
            self.assertTrue(plain(value), value)

    def test_equality(self):
        one = History(BANK, [("no", 1)])
        self.assertEqual(one, History(kind=Kind.read(str(BANK)), events=[["no", 1]]))
        for other in (History(BANK, [("no", 2)]), History(purse(2, 1), [("no", 1)]), History(BANK, []), None, "no"):
            self.assertIs(one == other, False)
            self.assertIs(one != other, True)


class Told(Refusing):

    def test_random(self):
        some_seen = 0
        for seed in range(150):
            events = some_events(seed, BANK, seed % 40, noes=seed % 4 == 0)
            history = History(BANK, events)
            deals = sorted({event[1] for event in events})
            ended = ended_at(events)
            opened = [deal for deal in deals if not of_deal(events, deal, "yes", "no")]
            self.assertEqual(history.kind, BANK)
            self.assertEqual(history.deals, tuple(deals))
            self.assertEqual(history.ended, tuple(ended))
            self.assertEqual(history.opened, tuple(opened))
            self.assertEqual(history.readied, tuple(deal for deal in opened if of_deal(events, deal, "ready")))
            self.assertEqual(seen_of(history), tuple(seen_at(events)))
            some_seen += len(seen_of(history))
            for deal in range(12):
                self.assertEqual(operations(history, deal), tuple(done_by(events, deal)))
                wanted = None
                if unanswered(events, deal) and not of_deal(events, deal, "no"):
                    wanted = of_deal(events, deal, "ask")[-1][2]
                self.assertEqual(waiting(history, deal), wanted)
        self.assertGreater(some_seen, 50)

    def test_called_off(self):
        history = History(BANK, [("ask", 2, 0), ("answer", 2, 1), ("ask", 2, 1), ("no", 2), ("no", 5)])
        self.assertEqual((history.deals, history.ended, history.opened), ((2, 5), (), ()))
        self.assertEqual(operations(history, 2), ((0, 1),))
        self.assertIsNone(waiting(history, 2))

    def test_seen_by_readies_alone(self):
        events = [("ready", 0), ("ask", 1, 0), ("yes", 0), ("answer", 1, 0), ("ready", 1), ("ready", 2), ("no", 2),
                  ("ready", 3), ("yes", 1)]
        self.assertEqual(seen_of(History(BANK, events)), ((0, 1),))
        self.assertEqual(seen_of(History(BANK, events + [("yes", 3)])), ((0, 1), (0, 3)))
        # The ready of 1 stands ahead of the yes of 0: nothing is seen.
        self.assertEqual(seen_of(History(BANK, [("ready", 1), ("ready", 0), ("yes", 0), ("yes", 1)])), ())

    def test_errors(self):
        history = History(BANK, [("no", 1)])
        for value in (None, BANK, history.events, History, Odd()):
            for function in (operations, waiting):
                self.refuses(BadValue("history"), function, value, 99)
            self.refuses(BadValue("history"), seen_of, value)
        for value in NO_INTEGERS + [-1, 12]:
            for function in (operations, waiting):
                self.refuses(BadNumber("deal"), function, history, value)
        self.assertEqual(operations(deal=11, history=history), ())
        self.assertIsNone(waiting(deal=0, history=history))
        self.assertEqual(seen_of(history=history), ())


if __name__ == "__main__":
    unittest.main()
