"""Runs of spreads that are not right, and right spreads that are lowered."""

import itertools
import random

from fewvisits.check_right import shows_right
from fewvisits.errors import BadSpread, BadValue, Impossible, TooMany
from fewvisits.kinds import Kind, operations_of
from fewvisits.least_notes import majority
from fewvisits.lowered import lowered
from fewvisits.makers import bag, chest, counter, line, purse, shelf, tickets
from fewvisits.own import keeps
from fewvisits.plays import played, ways
from fewvisits.right import Missed, Right, Unmet, is_right
from fewvisits.spread_logs import first_stray, history_of
from fewvisits.spread_runs import log_of
from fewvisits.spreads import Spread
from tests.naive import NO_LISTS, Odd, OwnList, plain, random_kind
from tests.naive_spreads import some_spread
from tests.refusing import Refusing
from tests.test_right import APART, BOX, FEW, KINDS, LOOSE, PUT, SHORT, TAKE
from tests.test_spread_logs import run_of


def some_walk(dice, kind, state, many):
    """Some operations that can be played from a state."""
    found = []
    for _ in range(many):
        rows = [row for row in kind.rows if row[0] == state]
        row = dice.choice(rows)
        found.append(row[1:3])
        state = row[3]
    return found


def longer(dice, spread, paper):
    """A paper that tells the same by longer lists, if one is found."""
    kind = spread.kind
    goal = played(kind, kind.first, paper.before)
    walk = some_walk(dice, kind, kind.first, dice.randint(1, 12))
    back = [path for path in (ways(Kind(kind.asks, kind.answers, kind.states, played(kind, kind.first, walk), kind.rows)),)
            if goal in path]
    before = walk + list(back[0][goal]) if back else list(paper.before)
    if paper.word == "missed":
        return Missed(before, paper.operation, list(paper.behind) + some_walk(dice, kind, kind.first, 1) * (dice.random() < 0.3))
    return Unmet(before, paper.first, paper.second, paper.behind)


class Runs(Refusing):

    def check(self, spread, paper):
        log = log_of(spread, paper)
        self.assertEqual(list(log), run_of(spread, paper))
        self.assertTrue(plain(log))
        self.assertIsNone(first_stray(spread, log))
        self.assertFalse(keeps(history_of(spread, log)))

    def test_random(self):
        told = {}
        for seed in range(400):
            dice = random.Random(seed)
            kind = KINDS[seed % 7] if seed % 2 else random_kind(seed, states=2 + seed % 4, asks=2, answers=2)
            spread = some_spread(seed, kind)
            paper = is_right(spread)
            if paper:
                self.refuses(BadValue("paper"), log_of, spread, paper)
                continue
            self.check(spread, paper)
            more = longer(dice, spread, paper)
            if shows_right(spread, more):
                self.check(spread, more)
                told[more.word, bool(more.before), bool(more.behind)] = 1 + told.get((more.word, bool(more.before), bool(more.behind)), 0)
            else:
                self.refuses(BadValue("paper"), log_of, spread, more)
        self.assertGreater(min(told[key] for key in (("unmet", True, False), ("unmet", True, True), ("missed", True, True))), 5, told)

    def test_whole_runs(self):
        wanted = (("do", 0, 0, 0, 0, (0, 1, 2), (0, 1, 2), ()), ("ready", 0), ("yes", 0),
                  ("do", 1, 1, 0, 1, (0, 1), (0, 1), ((0, 1),)), ("do", 2, 0, 0, 2, (2,), (2,), ((0, 1),)),
                  ("ready", 1), ("ready", 2), ("yes", 1), ("yes", 2),
                  ("do", 3, 1, 0, 3, (0, 1, 2), (0, 1, 2), ((0, 1), (1, 1), (2, 1))), ("ready", 3), ("yes", 3))
        self.assertEqual(log_of(paper=Unmet([PUT], PUT, TAKE, [TAKE]), spread=APART), wanted)
        wanted = (("do", 1, 0, 0, 0, (0, 1, 2), (2,), ()), ("ready", 1), ("yes", 1),
                  ("do", 2, 1, 1, 1, (0, 1), (0, 1), ()), ("ready", 2), ("yes", 2))
        self.assertEqual(log_of(LOOSE, Missed([], PUT, [SHORT])), wanted)
        # Second, first cannot be played at all: nobody comes behind.
        one_coin = Kind(["take"], ["ok", "no"], 2, 0, [(0, 0, 0, 1), (1, 0, 1, 1)])
        spread = Spread(one_coin, 2, [(0, 0, 1, 1), (0, 1, 2, 0)])
        wanted = (("do", 1, 0, 0, 0, (0,), (0,), ()), ("do", 2, 0, 0, 1, (1,), (1,), ()),
                  ("ready", 1), ("ready", 2), ("yes", 1), ("yes", 2))
        self.assertEqual(log_of(spread, is_right(spread)), wanted)

    def test_just_240_events(self):
        rest = [SHORT] * 200
        # Of a Missed: two for each do, and two for each of two or three deals.
        for many, fits in ((116, True), (117, False)):
            paper = Missed([], PUT, [SHORT])
            longer_one = Missed(rest[:many - 1] if many > 1 else [], PUT, [SHORT])
            events = 2 * (many - 1 + 2) + 6
            self.assertEqual(events <= 240, fits)
            if fits:
                self.assertEqual(len(history_of(LOOSE, log_of(LOOSE, longer_one)).events), events)
            else:
                self.refuses(TooMany("events", 240), log_of, LOOSE, longer_one)
            self.assertEqual(len(log_of(LOOSE, paper)), 6)
        # Of an Unmet, with and without a before.
        for before, fits in ((113, True), (114, False)):
            paper = Unmet([PUT] * before, PUT, TAKE, [TAKE])
            self.assertTrue(shows_right(APART, paper))
            self.assertEqual(2 * (before + 3) + 8 <= 240, fits)
            if fits:
                log = log_of(APART, paper)
                self.assertEqual((len(history_of(APART, log).events), first_stray(APART, log)), (240, None))
            else:
                self.refuses(TooMany("events", 240), log_of, APART, paper)

    def test_errors(self):
        right = is_right(FEW)
        for value in (None, BOX, LOOSE.rows, Odd()):
            self.refuses(BadSpread("spread"), log_of, value, None)
            self.refuses(BadSpread("spread"), lowered, value)
        wrong = [right, is_right(LOOSE), None, Right, ((), PUT, (SHORT,)), Missed([], PUT, [TAKE]), Missed([], (0, 1), [SHORT]),
                 Missed(None, PUT, [SHORT]), Missed([], PUT, Odd()), Unmet([PUT], PUT, TAKE, [TAKE]), Odd()] + NO_LISTS
        for value in wrong:
            self.refuses(BadValue("paper"), log_of, LOOSE if value is not wrong[1] else FEW, value)
        self.assertEqual(log_of(LOOSE, Missed(OwnList(), [0, 0], [[1, 1]])), log_of(LOOSE, Missed((), PUT, (SHORT,))))

    def test_lists_that_are_changed_after_the_call(self):
        behind = [[1, 1]]
        paper = Missed([], PUT, behind)
        log = log_of(LOOSE, paper)
        behind[0][0] = 0
        self.assertEqual(log, log_of(LOOSE, paper))


def lowered_plainly(spread):
    """What comes of rounds, each number being lowered one by one while is_right says yes."""
    rows = [list(row) for row in spread.rows]

    def holds():
        return all(row[2] >= max(1, row[3]) and row[3] >= 0 for row in rows) and bool(is_right(Spread(spread.kind, spread.sites, rows)))

    while True:
        ahead = [list(row) for row in rows]
        for place in (2, 3):
            for row in rows:
                while True:
                    row[place] -= 1
                    if not holds():
                        row[place] += 1
                        break
        if rows == ahead:
            return Spread(spread.kind, spread.sites, rows)


class Lowered(Refusing):

    def test_random(self):
        told = {True: 0, False: 0}
        for seed in range(260):
            kind = (KINDS + [line(2, 1), chest(2), purse(3, 0)])[seed % 10] if seed % 2 else random_kind(seed, states=2 + seed % 3,
                                                                                                        asks=2, answers=2)
            dice = random.Random(seed)
            spread = some_spread(seed, kind) if seed % 3 == 0 else majority(kind, dice.randint(1, 5))
            if seed % 3 == 1:
                spread = Spread(kind, spread.sites, [row[:2] + (spread.sites, dice.randint(row[3], spread.sites)) for row in spread.rows])
            paper = is_right(spread)
            told[bool(paper)] += 1
            if not paper:
                self.refuses(Impossible(paper), lowered, spread)
                continue
            low = lowered(spread)
            self.assertEqual(low, lowered_plainly(spread))
            self.assertTrue(is_right(low) and plain(low.rows))
            self.assertEqual(lowered(low), low)
            self.tight(low)
        self.assertGreater(min(told.values()), 30)

    def tight(self, spread):
        """No number can be one less, the others as they are."""
        for place, row in enumerate(spread.rows):
            for less in ((row[2] - 1, row[3]), (row[2], row[3] - 1)):
                if less[0] >= max(1, less[1]) and less[1] >= 0:
                    rows = spread.rows[:place] + (row[:2] + less,) + spread.rows[place + 1:]
                    self.assertFalse(is_right(Spread(spread.kind, spread.sites, rows)))

    def test_all_right_spreads_of_the_box(self):
        count = 0
        choices = [(visits, notes) for visits in (1, 2, 3) for notes in range(visits + 1)]
        for told in itertools.product(choices, repeat=3):
            spread = Spread(BOX, 3, [operation + numbers for operation, numbers in zip(operations_of(BOX), told)])
            if is_right(spread):
                count += 1
                self.assertEqual(lowered(spread=spread), lowered_plainly(spread))
        self.assertGreater(count, 20)

    def test_notes_above_visits_ahead(self):
        # The visits are lowered first, and not below the notes as they are then; a later round may lower them further.
        for kind in (counter(2), tickets(3), shelf(2, 0), bag(1, 2)):
            for sites in range(1, 6):
                full = Spread(kind, sites, [operation + (sites, sites) for operation in operations_of(kind)])
                self.assertEqual(lowered(full), lowered_plainly(full))
