"""Weaves: which events can stand, and the histories at their things."""

import random
import unittest

from fewvisits.errors import BadEvents, BadKind, TooMany
from fewvisits.histories import History
from fewvisits.kinds import Kind
from fewvisits.makers import chest, purse, tickets
from fewvisits.weaves import Weave, at
from tests.naive import NO_LISTS, Odd, OwnInt, OwnList, OwnStr, plain
from tests.naive_deals import first_bad_woven, some_event, some_woven, there
from tests.refusing import Refusing

BANK = Kind(["take", "put"], ["done", "short", "odd"], 3, 2,
            [(0, 0, 1, 0), (0, 1, 0, 1), (1, 0, 0, 0), (1, 1, 0, 2), (2, 0, 0, 1), (2, 1, 1, 2)])
GATE = tickets(2)
KINDS = [BANK, GATE, chest(1), purse(1, 0)]
WORDS = [("ask", 0), ("answer", 0), ("ready",), ("yes",), ("no",)]


class Standing(Refusing):

    def check(self, kinds, events):
        bad = first_bad_woven(len(kinds), events)
        if bad is None:
            self.assertEqual(Weave(kinds, events).events, tuple(events))
        else:
            self.refuses(BadEvents(bad), Weave, kinds, events)
        return bad

    def test_random_events(self):
        stood = [0, 0]
        for seed in range(1500):
            dice = random.Random(seed)
            kinds = KINDS[:dice.randint(1, 4)]
            events = some_woven(seed, kinds, dice.randint(4, 20), (0, 11)) if seed % 30 == 0 else []
            for _ in range(dice.randint(1, 5)):
                thing = dice.randrange(len(kinds))
                event = some_event(dice, kinds[thing], (0, 11))
                events.append((event[0], thing) + event[1:])
            stood[self.check(kinds, events) is None] += 1
        self.assertGreater(min(stood), 10)

    def test_each_event_behind_others(self):
        """Behind each weave of many, each event of one deal at two or three things stands just if it is told so."""
        for kinds, longest in (([BANK, GATE], 6), ([GATE, BANK, GATE], 4)):
            tried = [(word[0], thing, 5) + word[1:] for word in WORDS for thing in range(len(kinds))]
            level = [[]]
            for _ in range(longest):
                longer = []
                for events in level:
                    for event in tried:
                        if self.check(kinds, events + [event]) is None:
                            longer.append(events + [event])
                level = longer
            self.assertTrue(level)

    def test_rules_over_all_things(self):
        asked = [("ask", 0, 2, 0)]
        done = asked + [("answer", 0, 2, 0)]
        cases = [
            (asked, ("ask", 1, 2, 0), False), (asked + [("no", 0, 2)], ("ask", 1, 2, 0), True),
            (asked + [("no", 1, 2)], ("ask", 1, 2, 0), False), (asked, ("ask", 1, 3, 0), True),
            (asked, ("ready", 1, 2), False), (asked + [("no", 0, 2)], ("ready", 1, 2), True),
            (done + [("ready", 1, 2)], ("ask", 0, 2, 0), False), (done + [("ready", 1, 2)], ("ready", 0, 2), True),
            (done + [("ready", 1, 2)], ("yes", 1, 2), False), (done + [("ready", 1, 2)], ("yes", 0, 2), False),
            (done + [("ready", 1, 2), ("ready", 0, 2)], ("yes", 1, 2), True),
            (done + [("ready", 0, 2)], ("yes", 1, 2), False),
            (done + [("ready", 0, 2), ("yes", 0, 2)], ("yes", 1, 2), False),
            (done + [("ready", 0, 2), ("yes", 0, 2)], ("ready", 1, 2), False),
            (done + [("ready", 0, 2), ("yes", 0, 2)], ("no", 1, 2), False),
            (done + [("ready", 0, 2), ("yes", 0, 2)], ("ask", 1, 2, 0), False),
            (done + [("ready", 0, 2), ("no", 1, 2)], ("yes", 0, 2), False),
            (done + [("ready", 0, 2), ("no", 1, 2)], ("no", 0, 2), True),
            (done + [("no", 0, 2), ("ready", 1, 2)], ("yes", 1, 2), False),
            (done + [("ready", 0, 2), ("ready", 1, 2), ("yes", 1, 2)], ("yes", 0, 2), True),
            (done + [("ready", 0, 2), ("ready", 1, 2), ("yes", 1, 2)], ("yes", 1, 2), False),
            ([("ready", 0, 2), ("yes", 0, 2)], ("ready", 1, 2), False), ([("ready", 0, 2)], ("yes", 1, 2), False),
            ([("no", 0, 2)], ("ask", 1, 2, 0), True), ([("no", 0, 2)], ("ready", 1, 2), True),
        ]
        for ahead, event, right in cases:
            self.assertIs(first_bad_woven(2, ahead + [event]) is None, right, (ahead, event))
            if right:
                Weave([BANK, GATE], ahead + [event])
            else:
                self.refuses(BadEvents(len(ahead)), Weave, [BANK, GATE], ahead + [event])

    def test_forms(self):
        good = [("ask", 1, 0, 0), ("answer", 1, 0, 2), ("ready", 0, 11)]
        wrong = NO_LISTS + [(), ("ask",), ("ask", 0), ("ask", 0, 1), ("ask", 0, 1, 0, 0), ("ready", 0), ("ready", 0, 1, 0),
                            ("ask", 2, 1, 0), ("ask", -1, 1, 0), ("ask", True, 1, 0), ("ask", 0.0, 1, 0),
                            ("ask", None, 1, 0), ("ask", 0, 12, 0), ("ask", 0, -1, 0), ("ask", 0, True, 0),
                            ("ask", 0, 1, 2), ("ask", 1, 1, 1), ("ask", 0, 1, False), ("asks", 0, 1, 0), (0, 0, 1, 0),
                            ("no", 0, "1"), ("no", 0, None), ("maybe", 0, 1), (Odd(), 0, 1), ("no", Odd(), 1), ("no", 0, Odd()), "no0",
                            ("no", [0], 1), (["no"], 0, 1)]
        for event in wrong:
            self.refuses(BadEvents(3), Weave, [BANK, GATE], good + [event, None])
        for value in NO_LISTS:
            self.refuses(BadEvents(0), Weave, [BANK, GATE], value)

    def test_kinds(self):
        for value in NO_LISTS + [[], [BANK] * 5, [BANK, None], [None], [BANK, str(BANK)], BANK, [[BANK]], [Kind],
                                 [Odd()]]:
            self.refuses(BadKind("kinds"), Weave, value, None)
            self.refuses(BadKind("kinds"), Weave, value, [])
        for many in range(1, 5):
            weave = Weave([BANK] * many, [("no", many - 1, 0)])
            self.assertEqual(weave.kinds, (BANK,) * many)
            self.refuses(BadEvents(0), Weave, [BANK] * many, [("no", many, 0)])

    def test_at_most_240_of_each_thing(self):
        for thing in (0, 1):
            other = 1 - thing
            long = [("ask", thing, 11, 0), ("answer", thing, 11, 0)] * 120
            self.assertEqual(len(Weave([BANK, BANK], long).events), 240)
            self.refuses(BadEvents(240), Weave, [BANK, BANK], long + [("no", thing, 4)])
            self.refuses(BadEvents(240), Weave, [BANK, BANK], long + [("ask", thing, 11, 0), None])
            more = long + [("ask", other, 3, 0), ("answer", other, 3, 0)] * 120
            self.assertEqual(len(Weave([BANK, BANK], more).events), 480)
            self.refuses(BadEvents(480), Weave, [BANK, BANK], more + [("no", other, 4)])
            self.refuses(BadEvents(480), Weave, [BANK, BANK], more + [None])
            self.refuses(BadEvents(240), Weave, [BANK, BANK], long + [("no", thing, 4)] + more)
        four = [event for thing in range(4) for event in [("ask", thing, 1, 0), ("answer", thing, 1, 0)] * 120]
        self.assertEqual(len(Weave([BANK] * 4, four).events), 960)


class Told(Refusing):

    def test_random(self):
        added = 0
        for seed in range(120):
            kinds = KINDS[:1 + seed % 4]
            events = some_woven(seed, kinds, 8 + seed % 30, noes=seed % 4 == 0)
            weave = Weave(kinds, events)
            self.assertEqual(weave.kinds, tuple(kinds))
            self.assertEqual(weave.deals, tuple(sorted({event[2] for event in events})))
            ended = sorted({event[2] for event in events if event[0] == "yes"})
            self.assertEqual(weave.ended, tuple(ended))
            for thing in range(len(kinds)):
                here = there(events, thing)
                more = [("yes", deal) for deal in ended
                        if [event for event in here if event[1] == deal] and ("yes", deal) not in here]
                added += len(more)
                self.assertEqual(at(weave, thing), History(kinds[thing], here + more))
        self.assertGreater(added, 30)

    def test_no_events(self):
        weave = Weave([BANK], [])
        self.assertEqual((weave.events, weave.deals, weave.ended), ((), (), ()))
        self.assertEqual(at(weave, 0), History(BANK, []))

    def test_at_with_too_many(self):
        long = [("ask", 0, 0, 0), ("answer", 0, 0, 0)] * 119 + [("ready", 0, 0), ("ready", 0, 5), ("ready", 1, 0),
                                                                ("yes", 1, 0)]
        weave = Weave([BANK, GATE], long)
        self.refuses(TooMany("events", 240), at, weave, 0)
        self.assertEqual(at(weave, 1).events, (("ready", 0), ("yes", 0)))
        # Full, and nothing is to be put behind.
        self.assertEqual(len(at(Weave([BANK, GATE], long[:-1]), 0).events), 240)

    def test_copies_and_equality(self):
        kinds, events = [BANK, GATE], [["ask", 1, 0, 0], ["answer", 1, 0, 0]]
        weave = Weave(kinds, events)
        same = Weave((BANK, GATE), (("ask", 1, 0, 0), ("answer", 1, 0, 0)))
        kinds.append(BANK)
        events[0][3] = 7
        events.append(["no", 0, 0])
        self.assertEqual(weave, same)
        self.assertEqual(weave, Weave(events=[list(event) for event in same.events], kinds=[BANK, GATE]))
        for other in (Weave([BANK, BANK], same.events), Weave([BANK, GATE, GATE], same.events),
                      Weave([BANK, GATE], []), None, History(BANK, [])):
            self.assertIs(weave == other, False)
            self.assertIs(weave != other, True)
        self.assertIs(weave != same, False)

    def test_no_classes_of_their_own(self):
        event = OwnList([OwnStr("ask"), OwnInt(0), OwnInt(11), OwnInt(1)])
        weave = Weave(OwnList([BANK]), OwnList([event]))
        self.assertTrue(plain((weave.events, weave.deals, weave.ended)))
        self.assertIs(type(weave.kinds), tuple)
        self.assertEqual(weave, Weave([BANK], [("ask", 0, 11, 1)]))


if __name__ == "__main__":
    unittest.main()
