"""Tears of spreads that are not right, tight spreads, rings, and papers on them."""

import random

from fewvisits.check_right import shows_right
from fewvisits.check_tears import shows_tight, shows_torn
from fewvisits.errors import BadPairs, BadScript, BadSpread, BadValue, Impossible, Misfit, TooMany
from fewvisits.kinds import Kind, is_sure, operations_of
from fewvisits.least_notes import majority
from fewvisits.lowered import lowered
from fewvisits.makers import bag, chest, counter, line, purse, shelf, tickets
from fewvisits.papers import Denial, Paper
from fewvisits.patience import OneWay, Round, goes_one_way
from fewvisits.programs import Program
from fewvisits.right import Missed, Unmet, is_right
from fewvisits.rings import played_ring, ring_of
from fewvisits.scripts import is_script
from fewvisits.spreads import Spread
from fewvisits.tears import Slack, Tight, Torn, played_world, tight, torn
from fewvisits.weaves import order_of_all
from fewvisits.worlds import World
from tests.naive import NO_INTEGERS, NO_LISTS, Odd, plain, random_kind
from tests.naive_spreads import numbers, some_spread
from tests.refusing import Refusing
from tests.test_patience import NO_PAIRS, some_pairs
from tests.test_right import APART, BOX, FEW, LOOSE, PUT, SHORT

SURE = [BOX, tickets(2), counter(1), shelf(2, 0), chest(1), purse(2, 1), line(2, 1)]


def dealt(moves):
    return [list(moves[place:place + 11]) for place in range(0, len(moves), 11)]


class TornPlainly:
    """A tear as the document tells it, hand by hand and deal by deal."""

    def __init__(self, spread, paper):
        self.sites = list(range(spread.sites))
        self.script = []
        before, behind = dealt(paper.before), dealt(paper.behind)
        self.hands = [[]]
        for lot in before:
            self.whole(lot, self.sites)
        if paper.word == "missed":
            many = spread.sites - numbers(spread, paper.operation)[1]
            self.hands[0].append([paper.operation])
            self.does(0, self.sites, self.sites[many:])
            self.ends(0, len(self.sites))
            for lot in behind:
                self.whole(lot, self.sites[:many])
        else:
            many = spread.sites - numbers(spread, paper.first)[0]
            self.hands[0].append([paper.second])
            self.hands.append([[paper.first]])
            self.does(0, self.sites[:many], self.sites[:many])
            self.does(1, self.sites[many:], self.sites[many:])
            self.ends(1, len(self.sites) - many)
            self.ends(0, many)
            for lot in behind:
                self.whole(lot, self.sites)
        self.deals = [moves for hand in self.hands for moves in hand]
        self.program_hands = tuple(tuple(tuple([(0, move[0]) for move in moves] + [(1, 0)]) for moves in hand) for hand in self.hands)

    def does(self, hand, sites, noted):
        for site in sites:
            self.script += [("visit", hand, site)] + [("bring", 0)] * 2
        self.script += [("decide", hand, sum(2 ** place for place, site in enumerate(sites) if site in noted))]
        self.script += [("bring", 0)] * (2 * len(sites))

    def ends(self, hand, many):
        self.does(hand, [len(self.sites)], [len(self.sites)])
        self.script += [("send", hand)] + [("bring", 0)] * (4 * (many + 1) + 2)

    def whole(self, lot, sites):
        self.hands[0].append(lot)
        for _ in lot:
            self.does(0, sites, sites)
        self.ends(0, len(sites))


def far(many, sites=3):
    """A spread that is not right, but shows it only behind so many operations."""
    rows = []
    last = many + 1
    for state in range(last + 1):
        rows += [(state, 0, 0, min(state + 1, last)), (state, 1, 1 if state == last else 0, state)]
    kind = Kind(["go", "read"], ["no", "yes"], last + 1, 0, rows)
    return Spread(kind, sites, [(0, 0, sites, 1 if sites > 1 else 0), (1, 0, sites - 1 or 1, 0), (1, 1, sites - 1 or 1, 0)])


class Tears(Refusing):

    def check(self, spread):
        paper = is_right(spread)
        told = torn(spread)
        plainly = TornPlainly(spread, paper)
        self.assertEqual((told.word, told.parts, bool(told)), ("torn", (told.program, told.script), False))
        self.assertEqual((told.program.hands, told.program.pairs), (plainly.program_hands, ()))
        self.assertEqual(told.script, tuple(plainly.script))
        self.assertTrue(plain(told.script) and is_script(told.script))
        (one, places), (other, place) = told.program.things
        many = len(told.program.deals)
        self.assertEqual((one, places, place), (spread, tuple(range(spread.sites)), (spread.sites,)))
        self.assertEqual(other, Spread(tickets(many), 1, [operation + (1, 1) for operation in operations_of(tickets(many))]))
        world = World(told.program)
        for step in told.script:
            self.assertIs(world.step(step), True)
        self.assertEqual((world.letters(), world.out(), set(world.lives())), ((), (), {1}))
        self.assertEqual({outcome for _, outcome in world.heard()}, {1})
        # Each ask is answered as the list tells, and thing 1 numbers the deals as they draw.
        draws = []
        for moves, (answers, _) in zip(plainly.deals, world.heard()):
            self.assertEqual(list(answers[:-1]), [move[1] for move in moves])
            draws.append(answers[-1])
        self.assertEqual(sorted(draws), list(range(many)))
        self.assertFalse(order_of_all(world.settled()))
        self.assertIs(shows_torn(spread, told), True)
        self.assertEqual(played_world(told.program, told.script).weave(), world.weave())
        return paper.word

    def test_random(self):
        found = {}
        for seed in range(350):
            kind = SURE[seed % 7] if seed % 2 else random_kind(seed, states=2 + seed % 4, asks=2, answers=2)
            spread = some_spread(seed, kind)
            paper = is_right(spread)
            if not is_sure(kind):
                word = "unsure"
                self.refuses(Misfit("kind"), torn, spread)
            elif paper:
                word = "right"
                self.refuses(Impossible(paper), torn, spread)
            else:
                word = self.check(spread)
            found[word] = found.get(word, 0) + 1
        self.assertGreater(min(found[word] for word in ("unsure", "right", "unmet", "missed")), 20, found)

    def test_lists_of_eleven_and_twelve(self):
        for many, sizes in ((10, [11, 2, 2]), (11, [12, 2, 2]), (12, [12, 2, 2, 2]), (22, [12, 12, 2, 2]), (23, [12, 12, 2, 2, 2])):
            spread = far(many)
            paper = is_right(spread)
            self.assertEqual((paper.word, len(paper.before), len(paper.behind)), ("missed", many, 1))
            self.assertEqual(self.check(spread), "missed")
            self.assertEqual([len(deal) for deal in torn(spread).program.deals], sizes)

    def test_seven_deals_and_eight(self):
        spread = far(55, sites=5)
        self.assertEqual([len(is_right(spread).before), len(torn(spread).program.deals)], [55, 7])
        self.assertEqual(self.check(spread), "missed")
        self.assertLess(len(torn(spread).script), 2001)
        self.refuses(TooMany("deals", 7), torn, far(56, sites=5))

    def test_errors(self):
        for value in (None, BOX, LOOSE.rows, Odd()):
            for function in (torn, tight):
                self.refuses(BadSpread("spread"), function, value)
            for function in (shows_torn, shows_tight):
                self.refuses(BadSpread("spread"), function, value, None)
        # Misfit comes ahead of Impossible, and this ahead of TooMany.
        unsure = majority(bag(2, 2), 3)
        self.assertTrue(is_right(unsure))
        self.refuses(Misfit("kind"), torn, unsure)
        self.refuses(Impossible(is_right(FEW)), torn, FEW)
        self.assertEqual(torn(spread=LOOSE), torn(LOOSE))
        told = torn(LOOSE)
        for value in (None, LOOSE, told, (told.program,), Odd()):
            self.refuses(BadValue("program"), played_world, value, None)
        for value in NO_LISTS + [[("send", 8)], told.script + (None,)]:
            self.refuses(BadScript("script"), played_world, told.program, value)
        self.assertEqual(played_world(script=[], program=told.program).heard(), (((), None), ((), None)))

    def test_papers(self):
        paper = Torn(script=[["send", 0]], program=[1])
        self.assertEqual((paper.word, paper.program, paper.script, paper.parts), ("torn", (1,), (("send", 0),), ((1,), (("send", 0),))))
        self.assertTrue(isinstance(paper, Denial) and isinstance(Slack(1, 2, 3), Denial) and not isinstance(Tight([]), Denial))
        self.assertEqual((Tight(rows=[[1]]).rows, Tight([]).word, bool(Tight([]))), (((1,),), "tight", True))
        told = Slack(which=0, answer=[1], ask=2)
        self.assertEqual((told.ask, told.answer, told.which, told.parts, told.word, bool(told)), (2, (1,), 0, (2, (1,), 0), "slack", False))
        self.assertEqual(torn(LOOSE), Torn(torn(LOOSE).program, [list(step) for step in torn(LOOSE).script]))
        self.assertIsInstance(Tight([]), Paper)


class ShowsTorn(Refusing):

    def test_any_program_and_script(self):
        told = torn(LOOSE)
        things, hands, pairs = told.program.things, told.program.hands, told.program.pairs
        # Other sites, pairs, deals behind, a script that goes on.
        moved = Program([(LOOSE, (2, 4, 5)), (things[1][0], (0,))], hands, [(1, 0)])
        sites = {0: 2, 1: 4, 2: 5, 3: 0}
        script = [("visit", step[1], sites[step[2]]) if step[0] == "visit" else step for step in told.script]
        self.assertIs(shows_torn(LOOSE, Torn(moved, script)), True)
        self.assertIs(shows_torn(value=Torn(moved, script + [("cut", 2, 0), ("again", 4)]), spread=LOOSE), True)
        more = Program(things, hands + ((((0, 0),),),), pairs)
        self.assertIs(shows_torn(LOOSE, Torn(more, told.script)), True)
        # A script that stops, or loses a letter, may tear nothing.
        for many in range(len(told.script) + 1):
            wanted = bool(order_of_all(played_world(told.program, told.script[:many]).settled()))
            self.assertIs(shows_torn(LOOSE, Torn(told.program, told.script[:many])), not wanted)
        self.assertIs(shows_torn(LOOSE, Torn(told.program, told.script[:3])), False)

    def test_wrong_values(self):
        told = torn(LOOSE)
        for value in (None, told.parts, told.program, Denial("torn", told.program, told.script), Torn(None, told.script), Torn(told.program, None),
                      Torn(told.program, [("send", 9)]), Torn(told.program, told.script + ((0,),)), Torn(told.program, Odd()), Torn(Odd(), ()),
                      Torn(told.program, ()), Slack(0, 0, 0), Odd()):
            self.assertIs(shows_torn(LOOSE, value), False)
        # Thing 0 must have this spread, and the others right ones.
        equal = Spread(Kind.read(str(BOX)), 3, LOOSE.rows)
        self.assertIs(shows_torn(equal, told), True)
        self.assertIs(shows_torn(Spread(BOX, 3, [(0, 0, 2, 1), (1, 0, 2, 2), (1, 1, 2, 1)]), told), False)
        swapped = Program(told.program.things[::-1], [[[(1 - thing, ask) for thing, ask in deal] for deal in deals] for deals in told.program.hands])
        self.assertIs(order_of_all(played_world(swapped, told.script).settled()).word, "bars")
        self.assertIs(shows_torn(told.program.things[1][0], Torn(swapped, told.script)), False)
        self.assertIs(shows_torn(LOOSE, Torn(swapped, told.script)), False)
        wrong_too = Program(told.program.things + ((Spread(BOX, 2, [(0, 0, 1, 0), (1, 0, 1, 0), (1, 1, 1, 0)]), (4, 5)),), told.program.hands)
        self.assertIs(shows_torn(LOOSE, Torn(wrong_too, told.script)), False)
        right_too = Program(told.program.things + ((majority(BOX, 2), (4, 5)),), told.program.hands)
        self.assertIs(shows_torn(LOOSE, Torn(right_too, told.script)), True)
        # A right spread is never torn.
        right_one = Program([(FEW, (0, 1, 2)), told.program.things[1]], told.program.hands)
        self.assertIs(shows_torn(FEW, Torn(right_one, told.script)), False)

    def test_kinds_that_are_not_sure(self):
        # A bag that is not heard of: who looks for a thing finds none, though one was put in.
        kind = bag(1, 1)
        self.assertTrue(is_sure(kind))
        unsure = bag(2, 2)
        blind = Spread(unsure, 2, [operation + (1, 0) for operation in operations_of(unsure)])
        paper = is_right(blind)
        self.assertFalse(paper or is_sure(unsure))
        program = Program([(blind, (0, 1)), (majority(tickets(2), 1), (2,))], [[[(0, 0), (1, 0)], [(0, 2), (1, 0)]]])
        script = []
        for site in (0, 1):
            for place in (site, 2):
                script += [("visit", 0, place), ("bring", 0), ("bring", 0), ("decide", 0, 1 if place == 2 else 0), ("bring", 0), ("bring", 0)]
            script += [("send", 0)] + [("bring", 0)] * 10
        self.assertIs(shows_torn(blind, Torn(program, script)), True)
        self.refuses(Misfit("kind"), torn, blind)

    def test_eight_deals(self):
        told = torn(LOOSE)
        eight = Program([(LOOSE, (0, 1, 2))], [[[(0, 0)]] * 8])
        script = []
        for _ in range(8):
            for site in (0, 1, 2):
                script += [("visit", 0, site), ("bring", 0), ("bring", 0)]
            script += [("decide", 0, 7)] + [("bring", 0)] * 6 + [("send", 0)] + [("bring", 0)] * 14
        self.assertEqual([outcome for _, outcome in played_world(eight, script).heard()], [1] * 8)
        self.refuses(TooMany("deals", 7), shows_torn, LOOSE, Torn(eight, script))
        # Seven yeses are looked at; what is no such Torn is none whatever lies there.
        self.assertIs(shows_torn(LOOSE, Torn(eight, script[:-14])), False)
        self.assertIs(shows_torn(FEW, Torn(eight, script)), False)
        self.assertIs(shows_torn(LOOSE, told), True)


def less(spread, place, which):
    """The spread with one number one less, None if there is none."""
    row = list(spread.rows[place])
    row[2 + which] -= 1
    if row[2] < 1 or row[3] < 0 or row[3] > row[2]:
        return None
    return Spread(spread.kind, spread.sites, spread.rows[:place] + (row,) + spread.rows[place + 1:])


class TightSpreads(Refusing):

    def told_plainly(self, spread):
        rows = []
        for place, row in enumerate(spread.rows):
            for which in (0, 1):
                other = less(spread, place, which)
                if other and is_right(other):
                    return Slack(row[0], row[1], which)
                if other:
                    rows.append(row[:2] + (which, is_right(other)))
        return Tight(rows)

    def test_random(self):
        found = {}
        for seed in range(220):
            kind = (SURE + [bag(1, 2)])[seed % 8] if seed % 2 else random_kind(seed, states=2 + seed % 3, asks=2, answers=2)
            spread = some_spread(seed, kind) if seed % 3 == 0 else majority(kind, 1 + seed % 5)
            if not is_right(spread):
                self.refuses(Impossible(is_right(spread)), tight, spread)
                self.assertIs(shows_tight(spread, Tight([])), False)
                continue
            for told in (spread, lowered(spread)):
                paper = tight(told)
                self.assertEqual(paper, self.told_plainly(told))
                self.assertIs(shows_tight(told, paper), True)
                found[paper.word] = found.get(paper.word, 0) + 1
                self.assertEqual(bool(paper), lowered(told) == told)
                for place, row in enumerate(told.rows):
                    for which in (0, 1):
                        other = less(told, place, which)
                        self.assertIs(shows_tight(told, Slack(row[0], row[1], which)), bool(other and is_right(other)))
        self.assertGreater(min(found[word] for word in ("tight", "slack")), 30, found)

    def test_rivals(self):
        one, other = lowered(FEW), lowered(majority(BOX, 3))
        self.assertTrue(tight(one) and tight(other))
        for low, high in ((one, other), (other, one)):
            self.assertTrue(any(row[place] > told[place] for row, told in zip(low.rows, high.rows) for place in (2, 3)))

    def test_bent_papers(self):
        for spread in (FEW, majority(BOX, 3), lowered(majority(purse(2, 1), 3))):
            rows = tight(spread).rows
            for place in range(len(rows)):
                row = rows[place]
                for bent in (row[:3], row + (0,), (True,) + row[1:], row[:1] + (float(row[1]),) + row[2:], row[:2] + (1 - row[2], row[3]),
                             row[:3] + (None,), row[:3] + (is_right(spread),), row[:3] + (Odd(),), None, Odd(), row[:2] + (bool(row[2]), row[3])):
                    self.assertIs(shows_tight(spread, Tight(rows[:place] + (bent,) + rows[place + 1:])), False, bent)
                self.assertIs(shows_tight(spread, Tight(rows[:place] + rows[place + 1:])), False)
                self.assertIs(shows_tight(spread, Tight(rows[:place + 1] + rows[place:])), False)
                self.assertIs(shows_tight(spread, Tight([list(told) for told in rows])), True)
            self.assertIs(shows_tight(spread, Tight(rows[::-1])), len(rows) < 2)
            for value in (None, rows, Paper("tight", rows), Tight(None), Tight(0), Tight(Odd()), Tight([]), Odd(), Denial("slack", 0, 0, 0)):
                self.assertIs(shows_tight(spread, value), False)
        # Any Unmet or Missed that shows it will do; here a longer one than the least.
        rows = [list(row) for row in tight(FEW).rows]
        self.assertEqual(rows[0][3], Missed((), PUT, [SHORT]))
        rows[0][3] = Missed([PUT, (1, 0)], PUT, [SHORT])
        self.assertIs(shows_tight(FEW, Tight(rows)), True)
        rows[0][3] = Missed([PUT], PUT, [SHORT])
        self.assertIs(shows_tight(FEW, Tight(rows)), False)
        self.assertTrue(all(isinstance(row[3], (Missed, Unmet)) and shows_right(less(FEW, operations_of(BOX).index(tuple(row[:2])), row[2]), row[3])
                            for row in tight(FEW).rows))

    def test_a_right_paper_of_a_number_that_can_be_less(self):
        # Of a spread that is not tight a Tight is never right, be its papers right ones of the lesser spreads or not.
        for spread in (majority(BOX, 2), Spread(BOX, 3, [(0, 0, 3, 3), (1, 0, 3, 3), (1, 1, 3, 3)]), majority(counter(1), 3), LOOSE, APART):
            rows = []
            for place, row in enumerate(spread.rows):
                rows += [row[:2] + (which, is_right(less(spread, place, which))) for which in (0, 1) if less(spread, place, which)]
            wanted = bool(is_right(spread)) and not any(bool(row[3]) for row in rows)
            self.assertIs(shows_tight(spread, Tight(rows)), wanted)
            if is_right(spread):
                self.assertEqual(bool(tight(spread)), wanted)

    def test_slack(self):
        spread = Spread(BOX, 3, [(0, 0, 1, 1), (1, 0, 3, 2), (1, 1, 3, 0)])
        self.assertIs(shows_tight(spread, Slack(1, 0, 1)), True)
        for parts in ((1, 0, 0), (1, 0, 2), (1, 0, True), (True, 0, 1), (1, False, 1), (1, 0, 1.0), (1, 0, -1), (5, 0, 1), (None, 0, 1), (0, 0, 0),
                      (1, 1, 1), (0, 1, 0), (1, 0, Odd()), (1, 0, None), ("1", 0, 1)):
            self.assertIs(shows_tight(spread, Slack(*parts)), False, parts)
        for value in NO_INTEGERS:
            self.assertIs(shows_tight(spread, Slack(1, 0, value)), False)
            self.assertIs(shows_tight(spread, Slack(value, 0, 1)), False)
        self.assertIs(shows_tight(LOOSE, Slack(1, 0, 1)), False)


class Rings(Refusing):

    def test_each_ring(self):
        for many in range(2, 9):
            deals = random.Random(many).sample(range(8), many)
            pairs = list(zip(deals, deals[1:] + deals[:1]))
            program, script = ring_of(pairs)
            sizes = [4] * (many // 4) + ([many % 4] if many % 4 else [])
            self.assertEqual([spread.kind for spread, _ in program.things], [chest(size) for size in sizes])
            for site, (spread, sites) in enumerate(program.things):
                self.assertEqual((sites, spread.sites, {row[2:] for row in spread.rows}), ((site,), 1, {(1, 1)}))
            puts = [(item // 4, item % 4) for item in range(many)]
            self.assertEqual(program.hands, tuple(((puts[deal], puts[(deal + 1) % many]),) for deal in range(many)))
            self.assertEqual(program.pairs, tuple(sorted((deal, (deal + 1) % many) for deal in range(many))))
            wanted = []
            for turn, brings in ((0, 2), (1, 1)):
                for deal in range(many):
                    wanted += [("visit", deal, puts[(deal + turn) % many][0])] + [("bring", 0)] * 2 + [("decide", deal, 1)]
                    wanted += [("bring", 0)] * brings
            self.assertEqual((script, len(script)), (tuple(wanted), 11 * many))
            self.assertTrue(plain(script) and is_script(script))
            world = played_ring(pairs)
            waits = tuple(sorted((deal, (deal + 1) % many) for deal in range(many)))
            self.assertEqual((world.waits(), world.letters(), world.order()), (waits, (), ()))
            self.assertEqual(goes_one_way(world.waits()), Round(tuple(range(many))))
            told = (world.heard(), world.weave())
            self.assertEqual(told[0], (((0,), None),) * many)
            for _ in range(3):
                self.assertGreater(world.calm(), 0)
                self.assertEqual((world.waits(), (world.heard(), world.weave())), (waits, told))
            # Nothing that hands, sites and the teller do, but for a drop, changes anything of it.
            dice = random.Random(many)
            for _ in range(200):
                hand, site = dice.randrange(many), dice.randrange(len(program.things))
                world.step(dice.choice([("visit", hand, site), ("bring", 0), ("bring", 0), ("bring", 5), ("decide", hand, 1), ("leave", hand),
                                        ("send", hand), ("again", site), ("again", 6), ("quit", hand), ("twice", 0)]))
                self.assertEqual(world.heard(), told[0])
            world.run([("drop", 0, 0)])
            world.calm()
            self.assertNotIn(None, [outcome for _, outcome in world.heard()])

    def test_random(self):
        found = {True: 0, False: 0}
        for seed in range(200):
            pairs = some_pairs(seed)
            paper = goes_one_way(pairs)
            found[bool(paper)] += 1
            if paper:
                self.refuses(Impossible(paper), ring_of, pairs)
                self.refuses(Impossible(paper), played_ring, pairs)
                continue
            many = len(paper.deals)
            program, script = ring_of(pairs)
            self.assertIsInstance(ring_of(pairs), tuple)
            self.assertEqual((program, script), ring_of([(deal, (deal + 1) % many) for deal in range(many)]))
            world = played_ring(pairs)
            self.assertEqual(world.waits(), played_world(program, script).waits())
        self.assertGreater(min(found.values()), 30)

    def test_errors(self):
        for value in NO_PAIRS:
            self.refuses(BadPairs("pairs"), ring_of, value)
            self.refuses(BadPairs("pairs"), played_ring, value)
        self.refuses(Impossible(OneWay(())), ring_of, [])
        self.refuses(Impossible(OneWay((3, 1))), played_ring, [[3, 1]])
        self.assertEqual(ring_of(pairs=[[3, 1], [1, 3]])[0].owners, (0, 1))
        self.assertEqual(played_ring(pairs=[[3, 1], [1, 3]]).waits(), ((0, 1), (1, 0)))
