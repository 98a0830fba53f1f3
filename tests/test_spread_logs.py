"""Spread logs: which stand, what a do must see, and which may be given."""

import random

from fewvisits.errors import BadLog, BadLot, BadNumber, BadSpread, TooMany
from fewvisits.histories import History
from fewvisits.kinds import operations_of
from fewvisits.least_notes import majority
from fewvisits.makers import bag, chest, counter, purse
from fewvisits.own import keeps
from fewvisits.right import is_right
from fewvisits.spread_logs import do_for, fault_of, first_stray, history_of, plain_log, sight, view_of
from fewvisits.spreads import Spread
from tests.naive import NO_INTEGERS, NO_LISTS, Odd, OwnInt, OwnList, OwnStr, plain, random_kind
from tests.naive_spreads import (as_pairs, dates_ahead, events_of, fault, goes_on, numbers, required, some_do, some_log,
                                 some_lot, some_spread, view)
from tests.refusing import Refusing
from tests.test_spreads import BOX, FEW

KINDS = [BOX, counter(1), chest(1), purse(2, 1), bag(1, 2)]
ONE_IN = [("do", 0, 0, 0, 0, (2,), (2,), ()), ("ready", 0), ("yes", 0)]


def some_case(seed, good=None):
    """A spread, and a log of it."""
    kind = KINDS[seed % 5] if seed % 2 else random_kind(seed, states=2 + seed % 3, asks=2, answers=2)
    spread = some_spread(seed, kind, 1 + seed % 4)
    good = seed % 3 == 0 if good is None else good
    return spread, some_log(seed, spread, 12 + seed % 20, good=good)


def as_lists(value):
    return [as_lists(item) for item in value] if isinstance(value, tuple) else value


class Logs(Refusing):

    def test_random(self):
        faults, sights = {}, {}
        for seed in range(400):
            dice = random.Random(seed)
            spread, log = some_case(seed)
            given = [as_lists(record) for record in log] if seed % 2 else log
            self.assertEqual(plain_log(spread, given), tuple(record[:4] for record in log))
            self.assertEqual(history_of(spread, given), History(spread.kind, events_of(log)))
            found = [fault(spread, log[:place], record) if record[0] == "do" else None for place, record in enumerate(log)]
            wanted = [place for place, told in enumerate(found) if told]
            self.assertEqual(first_stray(spread, given), wanted[0] if wanted else None)
            for deal in (0, 2, 5, 11, 7):
                if [record for record in log if record[1] == deal and record[0] != "do"]:
                    continue
                visited = some_lot(dice, spread.sites, 1)
                least = as_pairs(required(log, deal, visited, set()))
                self.assertEqual(sight(spread, given, deal, list(visited)), least)
                sights[len(least)] = sights.get(len(least), 0) + 1
                for _ in range(3):
                    record = some_do(dice, spread, log, deal)
                    if goes_on(spread, log, record):
                        told = fault(spread, log, record)
                        faults[told] = faults.get(told, 0) + 1
                        self.assertEqual(fault_of(spread, given, as_lists(record) if seed % 2 else record), told)
                        self.assertEqual(view_of(spread, given, deal, as_lists(record[7])), view(spread, log, deal, record[7]))
        self.assertGreater(min(faults[word] for word in (None, "seen", "few", "barred", "date", "view")), 15, faults)
        self.assertGreater(min(sights[many] for many in (0, 1, 2)), 25, sights)

    def test_do_for(self):
        found = {}
        for seed in range(500):
            dice = random.Random(seed)
            spread, log = some_case(seed)
            deal = dice.choice([0, 2, 5, 11, 7])
            if [record for record in log if record[1] == deal and record[0] != "do"]:
                continue
            for ask in range(len(spread.kind.asks)):
                visited = some_lot(dice, spread.sites, 1) if dice.random() < 0.3 else tuple(range(spread.sites))
                seen = as_pairs(required(log, deal, visited, set()))
                wanted = None
                for answer in range(len(spread.kind.answers)):
                    if wanted is None and (ask, answer) in operations_of(spread.kind):
                        notes = numbers(spread, (ask, answer))[1]
                        record = ("do", deal, ask, answer, 0, visited, visited[:notes], seen)
                        date = max([-1] + dates_ahead(log, record)) + 1
                        record = record[:4] + (date,) + record[5:]
                        if fault(spread, log, record) is None:
                            wanted = record
                told = do_for(spread, log, deal, ask, list(visited))
                self.assertEqual(told, wanted)
                self.assertTrue(plain(told))
                found[wanted and wanted[3]] = found.get(wanted and wanted[3], 0) + 1
        self.assertGreater(min(found[answer] for answer in (None, 0, 1)), 30, found)

    def test_right_spreads_keep_the_own_rule(self):
        kept = 0
        for seed in range(150):
            kind = KINDS[seed % 5]
            spread = majority(kind, 1 + seed % 5) if seed % 2 else some_spread(seed, kind, 3)
            if not is_right(spread):
                continue
            log = some_log(seed, spread, 60, deals=(0, 1, 2, 3, 4, 5), good=True)
            self.assertIsNone(first_stray(spread, log))
            self.assertTrue(keeps(history_of(spread, log)))
            kept += len(history_of(spread, log).ended) > 2
        self.assertGreater(kept, 30)

    def test_runs_of_spreads_that_are_not_right(self):
        told = {}
        for seed in range(250):
            kind = KINDS[seed % 5] if seed % 2 else random_kind(seed, states=2 + seed % 3, asks=2, answers=2)
            spread = some_spread(seed, kind)
            paper = is_right(spread)
            told[paper.word] = told.get(paper.word, 0) + 1
            if not paper:
                log = run_of(spread, paper)
                self.assertIsNone(first_stray(spread, log))
                self.assertEqual([fault(spread, log[:place], record) for place, record in enumerate(log) if record[0] == "do"],
                                 [None] * len([record for record in log if record[0] == "do"]))
                self.assertFalse(keeps(history_of(spread, log)))
        self.assertGreater(min(told[word] for word in ("right", "unmet", "missed")), 20)


def run_of(spread, paper):
    """The run that the facts tell of an Unmet or a Missed."""
    everywhere = tuple(range(spread.sites))
    log = []

    def add(deal, operation, visited, noted):
        dates = [record[4] for record in log if record[0] == "do"]
        seen = sight(spread, log, deal, visited)
        log.append(("do", deal) + operation + (len(dates), visited, noted, seen))

    def end(deal):
        log.extend([("ready", deal), ("yes", deal)])

    for operation in paper.before:
        add(0, operation, everywhere, everywhere)
    if paper.before:
        end(0)
    if paper.word == "unmet":
        many = numbers(spread, paper.first)[0]
        add(1, paper.second, everywhere[:-many], everywhere[:-many])
        add(2, paper.first, everywhere[-many:], everywhere[-many:])
        log.extend([("ready", 1), ("ready", 2), ("yes", 1), ("yes", 2)])
        for operation in paper.behind:
            add(3, operation, everywhere, everywhere)
        if paper.behind:
            end(3)
        return log
    notes = numbers(spread, paper.operation)[1]
    add(1, paper.operation, everywhere, everywhere[spread.sites - notes:])
    end(1)
    for operation in paper.behind:
        add(2, operation, everywhere[:spread.sites - notes], everywhere[:spread.sites - notes])
    end(2)
    return log


class Conditions(Refusing):

    def test_each_by_itself(self):
        all_three = (0, 1, 2)
        right = ("do", 1, 1, 0, 1, all_three, (0,), ((0, 1),))
        self.assertIsNone(fault_of(FEW, ONE_IN, right))
        for place, value, word in ((7, (), "seen"), (5, (0, 2), "few"), (6, (), "few"), (4, 0, "date"), (3, 1, "view")):
            self.assertEqual(fault_of(FEW, ONE_IN, right[:place] + (value,) + right[place + 1:]), word)
        # Seen comes ahead of few, few ahead of barred, barred ahead of date, date ahead of view.
        held = ONE_IN + [("do", 2, 0, 0, 0, (0,), (0,), ())]
        self.assertEqual(fault_of(FEW, held, ("do", 1, 1, 0, 0, (0, 2), (), ())), "seen")
        self.assertEqual(fault_of(FEW, held, ("do", 1, 1, 0, 0, (0, 2), (), ((0, 1),))), "few")
        self.assertEqual(fault_of(FEW, held, ("do", 1, 1, 1, 0, all_three, (), ((0, 1),))), "barred")
        self.assertEqual(fault_of(FEW, ONE_IN, ("do", 1, 1, 1, 0, all_three, (), ((0, 1),))), "date")
        self.assertEqual(fault_of(FEW, ONE_IN, ("do", 1, 1, 1, 1, all_three, (), ((0, 1),))), "view")

    def test_who_holds(self):
        put = [("do", 2, 0, 0, 0, (0,), (0,), ())]
        take = ("do", 1, 1, 1, 1, (0, 1, 2), (), ())
        self.assertEqual(fault_of(FEW, put, take), "barred")
        self.assertEqual(fault_of(FEW, put + [("ready", 2)], take), "barred")
        self.assertIsNone(fault_of(FEW, put + [("no", 2)], take))
        self.assertIsNone(fault_of(FEW, put + [("ready", 2), ("no", 2)], take))
        self.assertEqual(fault_of(FEW, put + [("ready", 2), ("yes", 2)], take), "seen")
        # Its own dos bar nothing, nor do those of which no site is visited, nor those beside which it goes.
        self.assertEqual(fault_of(FEW, put, ("do", 2, 1, 1, 1, (0, 1, 2), (), ())), "view")
        self.assertIsNone(fault_of(FEW, put, ("do", 2, 1, 0, 1, (0, 1, 2), (2,), ())))
        self.assertIsNone(fault_of(FEW, put, ("do", 1, 0, 0, 0, (1,), (1,), ())))
        self.assertIsNone(fault_of(FEW, put, ("do", 1, 0, 0, 1, (0,), (0,), ())))

    def test_dates(self):
        put = [("do", 2, 0, 0, 7, (0,), (0,), ())]
        for date in (7, 6, 0):
            self.assertEqual(fault_of(FEW, put, ("do", 1, 0, 0, date, (0,), (0,), ())), "date")
            # One's own do counts wherever it was.
            self.assertEqual(fault_of(FEW, put, ("do", 2, 0, 0, date, (1,), (1,), ())), "date")
            # A deal that is called off does not.
            self.assertIsNone(fault_of(FEW, put + [("no", 2)], ("do", 1, 0, 0, date, (0,), (0,), ())))
            self.assertIsNone(fault_of(FEW, put, ("do", 1, 0, 0, date, (1,), (1,), ())))
        ended = put + [("ready", 2), ("yes", 2)]
        for date in (7, 0):
            # What is seen counts, be it at a site that is visited or not.
            self.assertEqual(fault_of(FEW, ended, ("do", 1, 0, 0, date, (1,), (1,), ((2, 1),))), "date")
            self.assertIsNone(fault_of(FEW, ended, ("do", 1, 0, 0, date, (1,), (1,), ())))
        # What visits the site without being noted there counts, too: a put is noted at 1 and visits 0.
        far = [("do", 2, 0, 0, 10 ** 40, (0, 1), (1,), ()), ("ready", 2), ("yes", 2)]
        self.assertEqual(fault_of(FEW, far, ("do", 1, 0, 0, 10 ** 40, (0,), (0,), ())), "date")
        self.assertIsNone(fault_of(FEW, far, ("do", 1, 0, 0, 10 ** 40 + 1, (0,), (0,), ())))
        self.assertEqual(do_for(FEW, far, 1, 0, [0])[4], 10 ** 40 + 1)
        self.assertEqual(do_for(FEW, far, 1, 0, [2])[4], 0)

    def test_sights(self):
        # 0 is noted at 0; 1 has seen it and is noted at 1; 2 has seen 1 alone, and is noted at 2.
        log = [("do", 0, 0, 0, 0, (0,), (0,), ()), ("do", 0, 0, 0, 1, (1,), (), ()), ("do", 0, 0, 0, 2, (2,), (), ()),
               ("ready", 0), ("yes", 0), ("do", 1, 0, 0, 3, (1,), (1,), ((0, 2),)), ("ready", 1), ("yes", 1),
               ("do", 2, 0, 0, 4, (2,), (2,), ((1, 1),)), ("ready", 2), ("yes", 2)]
        for visited, wanted in (((0,), ((0, 1),)), ((1,), ((0, 2), (1, 1))), ((2,), ((0, 2), (1, 1), (2, 1))),
                                ((0, 1, 2), ((0, 2), (1, 1), (2, 1)))):
            self.assertEqual(sight(FEW, log, 5, visited), wanted)
            self.assertTrue(plain(sight(FEW, log, OwnInt(5), OwnList(visited))))
        # What the deal's own dos saw it must see again; what is open or called off it need not see.
        more = log + [("do", 5, 0, 0, 9, (0,), (0,), ((0, 3),)), ("do", 6, 0, 0, 9, (0,), (0,), ()), ("no", 6)]
        self.assertEqual(sight(FEW, more, 5, (1,)), ((0, 3), (1, 1)))
        self.assertEqual(sight(FEW, more, 7, (0,)), ((0, 1),))
        # To see 2 is to see 1 and what it saw.
        self.assertEqual(fault_of(FEW, log, ("do", 7, 0, 0, 9, (0,), (0,), ((0, 1), (2, 1)))), "seen")
        self.assertIsNone(fault_of(FEW, log, ("do", 7, 0, 0, 9, (0,), (0,), ((0, 2), (1, 1), (2, 1)))))
        self.assertIsNone(fault_of(FEW, log, ("do", 7, 0, 0, 9, (0,), (0,), ((0, 3),))))

    def test_views(self):
        one = majority(counter(3), 1)
        ups = [("do", 3, 0, 0, 5, (0,), (0,), ()), ("ready", 3), ("yes", 3)]
        # Reads 1 at date 5 of deal 4, ahead of the up of date 5 of deal 3: deals count where dates are alike.
        log = ups + [("do", 4, 2, 2, 5, (0,), (0,), ()), ("ready", 4), ("yes", 4)]
        self.assertEqual(view_of(one, log, 0, [(3, 1), (4, 1)]), 1)
        log = ups + [("do", 2, 2, 2, 5, (0,), (0,), ()), ("ready", 2), ("yes", 2)]
        self.assertIsNone(view_of(one, log, 0, [(2, 1), (3, 1)]))
        log = ups + [("do", 2, 2, 2, 6, (0,), (0,), ()), ("ready", 2), ("yes", 2)]
        self.assertEqual(view_of(one, log, 0, [(2, 1), (3, 1)]), 1)
        # Of one deal and one date they count as they came; behind all stands what the deal did.
        log = [("do", 3, 0, 0, 5, (0,), (0,), ()), ("do", 3, 2, 2, 5, (0,), (0,), ()), ("ready", 3), ("yes", 3),
               ("do", 0, 0, 0, 1, (0,), (0,), ())]
        self.assertEqual(view_of(one, log, 0, [(3, 2)]), 2)
        self.assertEqual(view_of(one, log, 0, ()), 1)
        self.assertEqual(view_of(one, log, 1, [(3, 1)]), 1)

    def test_full_logs(self):
        one = majority(BOX, 1)
        pair = [("do", 0, 0, 0, 0, (0,), (0,), ()), ("do", 0, 1, 0, 1, (0,), (0,), ())]
        long = [record[:4] + (place,) + record[5:] for place, record in enumerate(pair * 59)] + [("no", 5)]
        next_do = ("do", 0, 0, 0, 500, (0,), (0,), ())
        for many, more in ((236, []), (237, [("no", 6)]), (238, [("no", 6), ("no", 7)]), (239, [("no", 6), ("no", 7), ("no", 8)]),
                           (240, [("no", 6), ("no", 7), ("no", 8), ("no", 9)])):
            log = long[:-1] + more
            self.assertEqual(len(history_of(one, log).events), many)
            self.assertEqual(sight(one, log, 0, [0]), ())
            self.assertEqual(view_of(one, log, 0, []), 0)
            self.assertIsNone(first_stray(one, log))
            if many <= 238:
                self.assertIsNone(fault_of(one, log, next_do))
                self.assertEqual(do_for(one, log, 0, 0, [0]), ("do", 0, 0, 0, 118, (0,), (0,), ()))
            else:
                self.refuses(BadLog("record"), fault_of, one, log, next_do)
                self.refuses(TooMany("events", 240), do_for, one, log, 0, 0, [0])
                self.refuses(BadNumber("deal"), do_for, one, log, 6, 0, [0])
                self.refuses(BadNumber("ask"), do_for, one, log, 0, 2, [0])
                self.refuses(BadLot("visited"), do_for, one, log, 0, 0, [])
        self.refuses(BadLog("log"), plain_log, one, log + [("no", 10)])
        self.refuses(BadLog("log"), history_of, one, log[:-1] + [next_do])

    def test_empty(self):
        self.assertEqual(plain_log(FEW, []), ())
        self.assertEqual(history_of(FEW, ()), History(BOX, []))
        self.assertIsNone(first_stray(FEW, []))
        self.assertEqual(sight(FEW, [], 11, [0]), ())
        self.assertEqual(do_for(FEW, [], 11, 1, [0, 1, 2]), ("do", 11, 1, 1, 0, (0, 1, 2), (), ()))
        self.assertIsNone(do_for(FEW, [], 11, 1, [0, 1]))
        for deal in (0, 11):
            self.assertEqual(do_for(FEW, [], deal, 0, [1])[1], deal)


class Wrong(Refusing):

    def test_records(self):
        right = ("do", 1, 1, 0, 1, (0, 1, 2), (0,), ((0, 1),))
        wrong = NO_LISTS + [(), ("do",), right[:7], right + (0,), ("did",) + right[1:], (0,) + right[1:], (None,) + right[1:],
                            (Odd(),) + right[1:], ("yes", 1), ("no",), [["do"]] + list(right[1:])]
        bent = {1: [0, 12, -1, True, None, "1", 1.0, Odd()], 2: [2, -1, True, None, 1.0, Odd()], 3: [2, -1, False, None, "0", Odd()],
                4: [-1, True, None, "1", 1.0, Odd()],
                5: NO_LISTS + [[], [3], [0, 0], [1, 0], [0, 1, True], [-1, 0], [0, 1, 2, 3], [0.0], [Odd()]],
                6: NO_LISTS + [[3], [0, 0], [1, 0], [True], [0.0], [Odd()]],
                7: NO_LISTS + [[(0, 2)], [(0, 0)], [(0, 1), (0, 1)], [(1, 1)], [(2, 1)], [(0, True)], [(False, 1)], [(0,)], [(0, 1, 1)],
                               [None], [0, 1], [(0, 1.0)], [(Odd(), 1)], [(0, Odd())], [Odd()]]}
        for place, values in bent.items():
            for value in values:
                wrong.append(right[:place] + (value,) + right[place + 1:])
        wrong.append(right[:2] + (0, 1) + right[4:])
        wrong.append(right[:5] + ((), ()) + right[7:])
        wrong.append(right[:5] + ((0, 1), (2,)) + right[7:])
        self.assertIsNone(fault_of(FEW, ONE_IN, right))
        for record in wrong:
            self.refuses(BadLog("record"), fault_of, FEW, ONE_IN, record)
            self.refuses(BadLog("log"), plain_log, FEW, ONE_IN + [record])
            self.refuses(BadLog("log"), first_stray, FEW, ONE_IN + [record])
        for record in (("ready", 1), ("no", 1), ["no", 1]):
            self.refuses(BadLog("record"), fault_of, FEW, ONE_IN, record)
        self.assertEqual(len(plain_log(FEW, ONE_IN + [["ready", 1]])), 4)
        for record in (("no",), ("no", 1, 1), ("no", True), ("no", 12), ("no", -1), ("no", None), ("maybe", 1), (None, 1), (Odd(), 1),
                       ("no", Odd()), (["no"], 1)):
            self.refuses(BadLog("log"), history_of, FEW, ONE_IN + [record])

    def test_random_logs(self):
        found = [0, 0]
        for seed in range(1200):
            dice = random.Random(seed)
            spread, log = some_case(seed % 200)
            place = dice.randrange(len(log) + 1)
            choice = dice.randrange(3)
            if choice == 0:
                log[place:place + 1] = []
            elif choice == 1:
                log[place:place] = [some_do(dice, spread, log, dice.choice([0, 2, 5]))]
            else:
                log[place:place] = [(dice.choice(["ready", "yes", "no"]), dice.choice([0, 2, 5]))]
            right = all(goes_on(spread, log[:k], log[k]) for k in range(len(log)))
            found[right] += 1
            if right:
                self.assertEqual(len(plain_log(spread, log)), len(log))
            else:
                for function, given in ((plain_log, ()), (history_of, ()), (first_stray, ()), (sight, (None, None)), (view_of, (0, ())),
                                        (fault_of, (None,)), (do_for, (0, 0, [0]))):
                    self.refuses(BadLog("log"), function, spread, log, *given)
        self.assertGreater(min(found), 200)

    def test_errors(self):
        for value in (None, BOX, Spread, FEW.rows, Odd()):
            for function, given in ((plain_log, ()), (history_of, ()), (first_stray, ()), (sight, (None, None)), (view_of, (0, ())),
                                    (fault_of, (None,)), (do_for, (None, None, None))):
                self.refuses(BadSpread("spread"), function, value, None, *given)
        log = ONE_IN + [("ready", 4), ("no", 5)]
        for value in NO_INTEGERS + [-1, 12, 0, 4, 5]:
            self.refuses(BadNumber("deal"), sight, FEW, log, value, None)
            self.refuses(BadNumber("deal"), view_of, FEW, log, value, None)
            self.refuses(BadNumber("deal"), do_for, FEW, log, value, None, None)
        for visited in NO_LISTS + [[], [3], [0, 0], [1, 0], [True], [0.0], [Odd()]]:
            self.refuses(BadLot("visited"), sight, FEW, log, 1, visited)
            self.refuses(BadLot("visited"), do_for, FEW, log, 1, 0, visited)
        for seen in NO_LISTS + [[(0, 2)], [(0, 0)], [(4, 1)], [(5, 1)], [(1, 1)], [(0, 1), (0, 1)], [(0, True)], [(False, 1)], [None],
                                [(0,)], [0, 1], [Odd()], [(Odd(), 1)], [(0, Odd())]]:
            self.refuses(BadLot("seen"), view_of, FEW, log, 1, seen)
        for ask in NO_INTEGERS + [-1, 2]:
            self.refuses(BadNumber("ask"), do_for, FEW, log, 1, ask, None)
        self.assertEqual(do_for(visited=[2], ask=0, deal=1, log=log, spread=FEW), ("do", 1, 0, 0, 1, (2,), (2,), ((0, 1),)))
        self.assertEqual(view_of(seen=[[0, 1]], deal=1, log=log, spread=FEW), 1)

    def test_copies_and_no_classes_of_their_own(self):
        record = OwnList([OwnStr("do"), OwnInt(0), OwnInt(0), OwnInt(0), OwnInt(0), OwnList([OwnInt(2)]), [OwnInt(2)], []])
        log = [record, OwnList([OwnStr("ready"), OwnInt(0)]), ("yes", 0)]
        for told in (plain_log(FEW, log), history_of(FEW, log).events, sight(FEW, log, 1, [2]),
                     do_for(FEW, log, OwnInt(1), OwnInt(0), OwnList([OwnInt(2)]))):
            self.assertTrue(plain(told))
        self.assertIsNone(first_stray(FEW, log))
        self.assertEqual(fault_of(FEW, log[:0], record), None)
