"""Right spreads, least notes, and papers on spreads."""

import itertools
import random

from fewvisits.check_right import shows_right
from fewvisits.errors import BadKind, BadNumber, BadSpread
from fewvisits.kinds import Kind, operations_of
from fewvisits.least_notes import majority, notes_for, unmet_pairs
from fewvisits.makers import bag, chest, counter, line, purse, shelf, tickets
from fewvisits.papers import Denial, Paper
from fewvisits.right import Missed, Right, Unmet, is_right
from fewvisits.spreads import Spread
from tests.naive import NO_INTEGERS, NO_LISTS, Odd, OwnInt, OwnList, leads_to, plain, random_kind
from tests.naive_pairs import able_by, beside, closed, ends_of, is_jar, least_jar, least_noticed, reached, shaken, some_moves
from tests.naive_spreads import may_miss, meets, some_spread
from tests.refusing import Refusing
from tests.test_spreads import BOX, FEW
from tests.test_unnoticed import is_notice, steps

PUT, TAKE, SHORT = (0, 0), (1, 0), (1, 1)
LOOSE = Spread(BOX, 3, [(0, 0, 2, 1), (1, 0, 2, 2), (1, 1, 2, 0)])
APART = Spread(BOX, 3, [(0, 0, 1, 1), (1, 0, 2, 2), (1, 1, 3, 0)])
KINDS = [BOX, tickets(2), counter(1), shelf(2, 0), chest(1), purse(2, 1), bag(1, 2)]


def some_case(seed):
    kind = KINDS[seed % 7] if seed % 2 else random_kind(seed, states=2 + seed % 3, asks=2, answers=2)
    if seed % 5 == 0:
        return majority(kind, 1 + seed % 4)
    return some_spread(seed, kind)


def unmeeting(spread):
    operations = operations_of(spread.kind)
    return [(one, other) for one in operations for other in operations if not meets(spread, one, other)]


def is_unnoticed(kind, operation, by):
    able = able_by(kind, by)
    return all(pair in able for pair in steps(kind, operation, reached(kind)))


def right_parts(spread):
    """The parts of the Right, as they are told of."""
    kind, places = spread.kind, reached(spread.kind)
    ends = [pair for one, other in unmeeting(spread) for pair in ends_of(kind, one, other)]
    missed = []
    for up in range(spread.sites + 1):
        pairs = [pair for row in spread.rows if row[3] + up == spread.sites for pair in steps(kind, row[:2], places)]
        missed.append(closed(kind, pairs, [row[:2] for row in spread.rows if row[2] <= up]))
    return places, closed(kind, ends + [pair[::-1] for pair in ends]), missed


def least_missed(spread, longest):
    """The parts of the least Missed, as it is told of."""
    found = []
    for row in spread.rows:
        told = least_noticed(spread.kind, row[:2], may_miss(spread, row[:2]), longest)
        if told:
            found.append((len(told[0]) + len(told[1]), (told[0], row[:2], told[1])))
    return min(found)[1] if found else None


def shows_it(spread, places, pairs, missed):
    """Whether the parts of a Right show that a spread is right, by looking along the rows."""
    kind = spread.kind
    told = {tuple(pair) for pair in pairs}
    if kind.first not in places or any(row[3] not in places for row in kind.rows if row[0] in places):
        return False

    def carries(lot, by):
        return all((row[3], leads_to(kind, there, [row[1:3]])) in lot for here, there in lot for row in kind.rows
                   if row[0] == here and row[1:3] in by)

    if not carries(told, operations_of(kind)):
        return False
    for one, other in unmeeting(spread):
        for state in places:
            if leads_to(kind, state, [one]) is not None and leads_to(kind, state, [other]) is not None:
                ends = leads_to(kind, state, [one, other]), leads_to(kind, state, [other, one])
                if None in ends or ends not in told or ends[::-1] not in told:
                    return False
    for up, lot in enumerate(missed):
        lot = {tuple(pair) for pair in lot}
        if not carries(lot, [row[:2] for row in spread.rows if row[2] <= up]):
            return False
        if not all(set(steps(kind, row[:2], places)) <= lot for row in spread.rows if row[3] + up == spread.sites):
            return False
    return True


class RightSpreads(Refusing):

    def test_random(self):
        found = {}
        for seed in range(350):
            spread = some_case(seed)
            kind = spread.kind
            jarring = [pair for pair in unmeeting(spread) if not beside(kind, *pair)]
            noticed = [row[:2] for row in spread.rows if not is_unnoticed(kind, row[:2], may_miss(spread, row[:2]))]
            paper = is_right(spread)
            found[paper.word] = found.get(paper.word, 0) + 1
            if jarring:
                self.assertEqual(paper, Unmet(*least_jar(kind, unmeeting(spread), 5)))
            elif noticed:
                self.assertEqual(paper, Missed(*least_missed(spread, 5)))
            else:
                self.assertEqual(paper, Right(*right_parts(spread)))
            self.assertTrue(plain(paper.parts))
            self.assertIs(shows_right(spread, paper), True)
        self.assertGreater(min(found.values()), 60, found)

    def test_one_site_and_five(self):
        for kind in KINDS + [line(3, 2), chest(3), bag(3, 3), purse(8, 0), shelf(7, 1)]:
            for sites in (1, 2, 3, 4, 5):
                spread = majority(kind, sites)
                paper = is_right(spread)
                self.assertIs(bool(paper), True)
                self.assertIs(shows_right(spread, paper), True)
                all_at_all = Spread(kind, sites, [move + (sites, sites) for move in operations_of(kind)])
                self.assertIs(bool(is_right(all_at_all)), True)
                one_less = Spread(kind, sites, [move + (sites // 2 or 1, sites // 2) for move in operations_of(kind)])
                self.assertIs(shows_right(one_less, is_right(one_less)), True)

    def test_visits_and_notes_that_are_just_enough(self):
        for kind in KINDS:
            for sites in (1, 2, 3):
                for row in majority(kind, sites).rows:
                    rows = list(majority(kind, sites).rows)
                    place = rows.index(row)
                    if row[3]:
                        rows[place] = row[:3] + (row[3] - 1,)
                        self.assertIsInstance(is_right(Spread(kind, sites, rows)), Missed)
        # In few the visits of a take and a put meet just so.
        self.assertIsInstance(is_right(Spread(BOX, 3, [(0, 0, 1, 1), (1, 0, 2, 1), (1, 1, 3, 0)])), Unmet)

    def test_greater_numbers(self):
        for seed in range(60):
            spread = some_case(seed)
            if is_right(spread):
                dice = random.Random(seed)
                rows = []
                for ask, answer, visits, notes in spread.rows:
                    more = dice.randint(visits, spread.sites)
                    rows.append((ask, answer, more, dice.randint(notes, more)))
                self.assertIs(bool(is_right(Spread(spread.kind, spread.sites, rows))), True)

    def test_unreached_states_do_not_count(self):
        kind = Kind(["a", "b"], ["x", "y"], 4, 0, [(0, 0, 0, 0), (0, 1, 0, 0), (1, 0, 0, 2), (1, 1, 0, 3), (2, 0, 0, 2), (2, 1, 1, 2),
                                                   (3, 0, 1, 3), (3, 1, 0, 3)])
        spread = Spread(kind, 2, [(0, 0, 1, 0), (0, 1, 1, 0), (1, 0, 1, 0), (1, 1, 1, 0)])
        self.assertEqual(is_right(spread), Right((0,), ((0, 0),), ((), (), ((0, 0),))))

    def test_errors(self):
        for value in (None, BOX, FEW.rows, Spread, Odd()):
            self.refuses(BadSpread("spread"), is_right, value)
            self.refuses(BadSpread("spread"), shows_right, value, None)
        self.assertEqual(is_right(spread=LOOSE), Missed((), PUT, [SHORT]))
        self.assertIs(shows_right(value=Missed(behind=[SHORT], operation=PUT, before=[]), spread=LOOSE), True)


class LeastNotes(Refusing):

    def test_random(self):
        nones = 0
        for seed in range(150):
            dice = random.Random(seed)
            kind = KINDS[seed % 7] if seed % 2 else random_kind(seed, states=2 + seed % 3, asks=2, answers=2)
            sites = dice.randint(1, 5)
            operations = operations_of(kind)
            visits = [dice.randint(1, sites) for _ in operations]
            wanted = []
            for move, many in zip(operations, visits):
                least = [notes for notes in range(sites + 1) if is_unnoticed(
                    kind, move, [other for other, up in zip(operations, visits) if up + notes <= sites])][0]
                wanted.append(least if least <= many else None)
            self.assertEqual(notes_for(kind, sites, visits), tuple(wanted))
            nones += None in wanted
            told = dict(zip(operations, visits))
            pairs = [(one, other) for one in operations for other in operations
                     if one <= other and told[one] + told[other] <= sites and not beside(kind, one, other)]
            self.assertEqual(unmet_pairs(kind, sites, visits), tuple(pairs))
            self.assertTrue(plain((notes_for(kind, sites, visits), unmet_pairs(kind, sites, visits))))
            if not pairs:
                self.assertNotIn(None, wanted)
            if None not in wanted:
                spread = Spread(kind, sites, [move + (many, notes) for move, many, notes in zip(operations, visits, wanted)])
                self.assertIs(bool(is_right(spread)), not pairs)
        self.assertGreater(nones, 20)

    def test_all_visits_of_the_box(self):
        for visits in itertools.product((1, 2, 3), repeat=3):
            notes = notes_for(BOX, 3, list(visits))
            for place in range(3):
                for told in range(visits[place] + 1):
                    rows = [move + (many, many) for move, many in zip(operations_of(BOX), visits)]
                    rows[place] = rows[place][:3] + (told,)
                    if not unmet_pairs(BOX, 3, visits):
                        self.assertIs(bool(is_right(Spread(BOX, 3, rows))), told >= notes[place])

    def test_majorities(self):
        for kind in KINDS + [line(2, 2), bag(2, 2), random_kind(3)]:
            for sites in range(1, 6):
                spread = majority(kind, sites)
                self.assertEqual((spread.kind, spread.sites), (kind, sites))
                most = {1: 1, 2: 2, 3: 2, 4: 3, 5: 3}[sites]
                self.assertEqual([row[2] for row in spread.rows], [most] * len(spread.rows))
                self.assertEqual([row[3] for row in spread.rows], list(notes_for(kind, sites, [most] * len(spread.rows))))
                self.assertIs(bool(is_right(spread)), True)

    def test_errors(self):
        for function in (notes_for, unmet_pairs):
            for value in (None, str(BOX), FEW, Odd()):
                self.refuses(BadKind("kind"), function, value, None, None)
            for value in NO_INTEGERS + [0, 6, -1]:
                self.refuses(BadNumber("sites"), function, BOX, value, None)
            for value in NO_LISTS + [[], [1, 2], [1, 2, 3, 3], [1, 2, 4], [0, 1, 2], [True, 1, 2], [1, 2, None], [1.0, 1, 1], [[1], 1, 1],
                                     [Odd(), 1, 1]]:
                self.refuses(BadNumber("visits"), function, BOX, 3, value)
            self.assertEqual(function(visits=(1, 1, 1), sites=1, kind=BOX), function(BOX, OwnInt(1), OwnList([OwnInt(1), 1, 1])))
        for value in (None, str(BOX), FEW, Odd()):
            self.refuses(BadKind("kind"), majority, value, None)
        for value in NO_INTEGERS + [0, 6, -1]:
            self.refuses(BadNumber("sites"), majority, BOX, value)
        self.assertTrue(plain((majority(BOX, OwnInt(3)).rows, majority(BOX, OwnInt(3)).sites)))


class ShowsRight(Refusing):

    def test_any_parts(self):
        found = [0, 0]
        for seed in range(1500):
            dice = random.Random(seed)
            spread = some_case(dice.randrange(300))
            kind = spread.kind
            places, pairs, missed = is_right(spread).parts if is_right(spread) else (reached(kind), (), [()] * (spread.sites + 1))
            if dice.random() < 0.2:
                places = sorted(set(places) ^ {dice.randrange(kind.states)})
            if dice.random() < 0.5:
                pairs = shaken(dice, pairs, kind.states)
            missed = [shaken(dice, lot, kind.states) if dice.random() < 0.3 else list(lot) for lot in missed]
            wanted = shows_it(spread, places, pairs, missed)
            found[wanted] += 1
            self.assertIs(shows_right(spread, Right(places, pairs, missed)), wanted)
        self.assertGreater(min(found), 200)

    def test_any_denials(self):
        found = [0, 0, 0, 0]
        for seed in range(4000):
            dice = random.Random(seed)
            spread = some_case(dice.randrange(300))
            kind = spread.kind
            before = some_moves(dice, kind, 2)
            first, second = dice.choice(operations_of(kind)), dice.choice(operations_of(kind))
            state = leads_to(kind, kind.first, before)
            end = None if state is None else leads_to(kind, state, [second, first] if seed % 2 else [])
            behind = some_moves(dice, Kind(kind.asks, kind.answers, kind.states, kind.first if end is None else end, kind.rows), 2)
            if seed % 2:
                wanted = not meets(spread, first, second) and is_jar(kind, before, first, second, behind)
                self.assertIs(shows_right(spread, Unmet(before, list(first), second, behind)), wanted)
            else:
                wanted = is_notice(kind, first, may_miss(spread, first), before, behind)
                self.assertIs(shows_right(spread, Missed([list(move) for move in before], first, behind)), wanted)
            found[2 * (seed % 2) + wanted] += 1
        self.assertGreater(min(found), 20, found)

    def test_bent_right(self):
        places, pairs, missed = is_right(FEW).parts
        self.assertIs(shows_right(FEW, Right(list(places), [[1, 1], [0, 0], [1, 1]], [list(lot)[::-1] for lot in missed])), True)
        for told in NO_LISTS + [[], [0], [1, 0], [0, 0, 1], [0, 1, 2], [0, True], [0.0, 1], [Odd(), 1]]:
            self.assertIs(shows_right(FEW, Right(told, pairs, missed)), False)
        for told in NO_LISTS + [[], [(0, 0)], [(1, 1)], [(0, 0), (1, 1), (1, 0)], [(0, 0), (1, 1), (0, 2)], [(0, 0), (1, True)],
                                [(0, 0), (1, 1), None], [(0, 0), (1, 1), (0,)], [(0, 0.0), (1, 1)], [(0, 0), (1, 1), Odd()]]:
            self.assertIs(shows_right(FEW, Right(places, told, missed)), False)
        for told in NO_LISTS + [[], missed[:3], missed + ((),), ((),) * 4, missed[1:] + missed[:1], missed[:2] + (None,) + missed[3:],
                                missed[:2] + (((0, 1), (1, 0)),) + missed[3:], missed[:2] + (((0, 1), (1, 1)),) + missed[3:],
                                missed[:3] + (((0, 0),),), (((0, 2),),) + missed[1:], ([None],) + missed[1:], (Odd(),) + missed[1:],
                                ([(0, True)],) + missed[1:], [lot for lot in missed[:3]] + [7]]:
            self.assertIs(shows_right(FEW, Right(places, pairs, told)), False)
        # With no operation to carry it, any pair of states may stand there.
        self.assertIs(shows_right(FEW, Right(places, pairs, (((0, 1), (1, 0)),) + missed[1:])), True)
        for value in NO_LISTS + [Paper("right", places, pairs, missed), (places, pairs, missed), Denial("unmet", (), PUT, TAKE, ()),
                                 is_right(LOOSE), is_right(APART)]:
            self.assertIs(shows_right(FEW, value), False)
        more = Spread(BOX, 3, [(0, 0, 1, 1), (1, 0, 3, 1), (1, 1, 3, 1)])
        self.assertIs(shows_right(more, is_right(FEW)), False)
        self.assertIs(shows_right(Spread(BOX, 4, [(0, 0, 1, 1), (1, 0, 4, 1), (1, 1, 4, 0)]), is_right(FEW)), False)

    def test_bent_denials(self):
        right = [[PUT], PUT, TAKE, [TAKE]]
        self.assertIs(shows_right(APART, Unmet(*right)), True)
        # Of two that meet none is right, nor one with an operation of which the spread tells nothing.
        self.assertIs(shows_right(FEW, Unmet(*right)), False)
        self.assertIs(shows_right(APART, Unmet([PUT], TAKE, TAKE, [])), False)
        self.assertIs(shows_right(Spread(BOX, 4, APART.rows), Unmet([PUT], TAKE, TAKE, [])), True)
        for place, values in ((0, [[], [(0, False)], [(2, 0)], [PUT, None], None, "ab", 7, Odd(), [Odd()]]),
                              (1, [SHORT, TAKE, (False, 0), (0.0, 0), (0, 1), (0,), None, Odd(), (Odd(), 0), (2, 0)]),
                              (2, [PUT, SHORT, (1, 0.0), (True, 0), (0, 1), None, Odd(), (0, 0, 0)]),
                              (3, [[], [PUT], [(True, 0)], [TAKE, None], [(0, 9)], None, (1, 0), Odd(), [Odd()]])):
            for value in values:
                parts = right[:place] + [value] + right[place + 1:]
                self.assertIs(shows_right(APART, Unmet(*parts)), False, (place, value))
        right = [[PUT, TAKE], PUT, [SHORT]]
        self.assertIs(shows_right(LOOSE, Missed(*right)), True)
        for place, values in ((0, [[PUT], [SHORT, TAKE], [(0, False), TAKE], None, "ab", 7, Odd(), [Odd()], [None]]),
                              (1, [SHORT, TAKE, (False, 0), (0.0, 0), (0, 1), (0,), None, Odd(), (Odd(), 0), (2, 0), [0]]),
                              (2, [[], [PUT], [TAKE], [(True, 1)], [SHORT, None], [(1, 9)], None, (1, 1), Odd(), [Odd()]])):
            for value in values:
                parts = right[:place] + [value] + right[place + 1:]
                self.assertIs(shows_right(LOOSE, Missed(*parts)), False, (place, value))
        # Who may not miss it shows nothing.
        self.assertIs(shows_right(FEW, Missed(*right)), False)
        self.assertIs(shows_right(Spread(BOX, 3, [(0, 0, 2, 2), (1, 0, 2, 2), (1, 1, 2, 0)]), Missed(*right)), False)
