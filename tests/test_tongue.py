"""What things make."""

import random

from fewvisits.alike import can_as
from fewvisits.errors import BadKind, BadText, BadValue, Impossible, TooMany
from fewvisits.kinds import Kind
from fewvisits.makers import bag, chest, counter, line, purse, tickets
from fewvisits.papers import Denial, Paper
from fewvisits.plays import reachable
from fewvisits.things import Thing
from fewvisits.tongue import Always, Made, Same, Silent, Sometimes, Unlike, always, made, same, told
from tests.naive import Odd, leads_to, plain, random_kind
from tests.naive_things import Maker, Plain, led_by, met_told
from tests.refusing import Refusing

SEATS = "number left 0 2 2 / ask take : when yes answer done set left - left 1 : when yes answer none / ask back : when " \
        "yes answer done set left + left 1 : when yes answer full"
RISING = "number n 0 1 0 / ask up : when yes answer ok set n + n 1"
STEPS = "number n 0 {} 0 / ask up : when yes answer ok set n + n 1 : when yes answer top"
KINDS = [purse(3, 1), tickets(3), counter(2), chest(2), line(2, 2), bag(2, 2)]


def kind_told(text, states):
    """The made kind, as it is told of."""
    thing = Plain(text)
    given = {(state, ask): thing.given(state, ask) for state in states for ask in range(len(thing.asks))}
    words = sorted({answer for pairs in given.values() for answer, _ in pairs})
    rows = [(number, ask, words.index(answer), states.index(behind)) for number, state in enumerate(states)
            for ask in range(len(thing.asks)) for answer, behind in given[state, ask]]
    return Kind([ask[0] for ask in thing.asks], words, len(states), 0, sorted(rows))


def moves_of_states(text, one_states):
    """For each state a dict of the next states by operations."""
    thing = Plain(text)
    return [{(ask[0], answer): behind for number, ask in enumerate(thing.asks)
             for answer, behind in thing.given(state, number)} for state in one_states]


class MadeKinds(Refusing):

    def test_random(self):
        found = {}
        for seed in range(500):
            text = Maker(seed).text()
            thing = Thing(text)
            states, ways, ends = met_told(text)
            what = ends[0] if ends else "made"
            found[what] = found.get(what, 0) + 1
            if what == "silent":
                self.assertEqual(made(thing), Silent(*ends[1:]))
                self.assertEqual(list(vars(made(thing))), ["word", "parts", "operations", "ask"])
            elif what == "many":
                self.refuses(TooMany("states", 60), made, thing)
            else:
                paper = made(thing)
                self.assertEqual(paper, Made(kind_told(text, states), states))
                self.assertTrue(plain(paper.states))
                self.assertEqual(reachable(paper.kind), tuple(range(len(states))))
                self.assertIs(bool(same(thing, told(paper.kind))), True)
        self.assertGreater(min(found["made"], found["silent"]), 50)

    def test_sixty_states(self):
        self.assertEqual(len(made(Thing(STEPS.format(59))).states), 60)
        self.refuses(TooMany("states", 60), made, Thing(STEPS.format(60)))
        self.refuses(TooMany("states", 60), always, Thing(STEPS.format(60)), "yes")
        self.assertEqual(always(Thing(STEPS.format(59)), "yes").states, tuple((k,) for k in range(60)))

    def test_silent_or_too_many_whichever_is_first(self):
        # The last state is silent: it is looked at ahead of its next states.
        for last, error in ((58, None), (59, None), (60, TooMany("states", 60))):
            text = f"number n 0 {last} 0 / ask go : when yes answer ok set n + n 1"
            thing = Thing(text)
            if error is None:
                wanted = Silent([("go", "ok")] * last, "go")
                self.assertEqual(made(thing), wanted)
                self.refuses(Impossible(wanted), always, thing, "yes")
                self.refuses(Impossible(wanted), same, thing, thing)
            else:
                self.refuses(error, made, thing)
        # 0 leads to all: its 60th next state is the 61st one, though 1 would be silent.
        wide = "number n 0 {} 0 / ask go : " + " : ".join(f"pick {0} 8 < one 9 answer a{k} one set n + {9 * k + 1} one"
                                                         for k in range(7))
        for most in (59, 60):
            text = wide.format(most) + " : when = n 99 answer z"
            thing = Thing(text.replace("< one 9", "= n 0"))
            ends = met_told(str(thing))[2]
            if most == 59:
                self.assertEqual(ends, ("silent", (("go", "a00"),), "go"))
                self.assertEqual(made(thing), Silent(*ends[1:]))
            else:
                self.assertEqual(ends, ("many",))
                self.refuses(TooMany("states", 60), made, thing)

    def test_the_first_silent_ask(self):
        thing = Thing("number n 0 2 0 / ask a : when yes answer ok set n + n 1 : when = n 2 answer no / ask b : when < n 1 answer x / "
                      "ask c : when < n 1 answer y")
        self.assertEqual(made(thing), Silent([("a", "ok")], "b"))
        self.assertEqual(made(Thing(RISING)), Silent([("up", "ok")], "up"))
        self.assertEqual(made(Thing("ask a : when yes answer x / ask b : when not yes answer y")), Silent((), "b"))

    def test_answers_and_rows(self):
        case = "pick 0 8 yes answer a one : pick 0 {} yes answer b one"
        self.assertEqual(len(made(Thing("ask go : " + case.format(2))).kind.answers), 12)
        self.refuses(TooMany("answers", 12), made, Thing("ask go : " + case.format(3)))
        self.assertEqual(len(always(Thing("ask go : " + case.format(3)), "yes").states), 1)
        self.assertIs(bool(same(Thing("ask go : " + case.format(3)), Thing("ask go : " + case.format(3)))), True)
        # 49 states with 12 rows each, 50 and 51 with 12 each: 588, 600 and 612.
        text = "number n 0 {} 0 / ask up : when yes answer ok set n + n 1 : when yes answer top / ask go : " \
               "pick 0 8 yes answer b one : may yes answer ok : may yes answer top"
        self.assertEqual(len(made(Thing(text.format(49))).kind.rows), 600)
        self.refuses(TooMany("rows", 600), made, Thing(text.format(50)))
        self.refuses(TooMany("rows", 600), made, Thing(text.format(49) + " : may = n 0 answer c"))
        self.assertEqual(len(always(Thing(text.format(50)), "yes").states), 51)
        text = text.replace("pick 0 8 yes answer b one", "pick 0 8 yes answer b one : may yes answer c : may yes answer d")
        self.refuses(TooMany("answers", 12), made, Thing(text.format(50)))

    def test_words_ascend(self):
        thing = Thing("ask go : pick 1 2 yes answer b one : may yes answer b : may yes answer a : may yes answer b 10 : may yes answer 9")
        self.assertEqual(made(thing).kind.answers, ("9", "a", "b", "b1", "b10", "b2"))

    def test_one_number_for_a_state(self):
        thing = Thing("number n 0 2 0 / lot kept 2 / ask b : when yes answer ok set n 2 / ask a : may yes answer ok set n 1 : "
                      "may yes answer no set n 2 : may yes answer put put kept n")
        self.assertEqual(made(thing).states[:4], ((0, ()), (2, ()), (1, ()), (0, (0,))))


class AlwaysSo(Refusing):

    def test_random(self):
        found = [0, 0, 0]
        for seed in range(500):
            maker = Maker(seed)
            text = maker.text()
            thing, condition = Thing(text), maker.condition(1, [])
            states, ways, ends = met_told(text)
            if ends:
                found[2] += 1
                self.refuses(Impossible(Silent(*ends[1:])) if ends[0] == "silent" else TooMany("states", 60), always, thing, condition)
                continue
            wrong = [way for state, way in zip(states, ways) if not Plain(text).so(condition.split(" "), state)]
            paper = always(thing, condition)
            found[bool(paper)] += 1
            self.assertEqual(paper, Sometimes(wrong[0]) if wrong else Always(states))
            self.assertTrue(plain(paper.parts))
        self.assertGreater(min(found), 40)

    def test_not_there_is_not_so(self):
        thing = Thing("line row 1 2 / ask a : when yes answer ok push row 1 : when yes answer full")
        self.assertEqual(always(thing, "= front row 1"), Sometimes(()))
        self.assertEqual(always(thing, "not = front row 0"), Sometimes(()))
        self.assertEqual(always(thing, "= size row 0"), Sometimes([("a", "ok")]))
        self.assertEqual(always(thing, "yes"), Always([((),), ((1,),)]))

    def test_errors(self):
        rising = Thing(RISING)
        for value in (None, SEATS, Thing, Odd(), made(rising)):
            self.refuses(BadValue("thing"), made, value)
            self.refuses(BadValue("thing"), always, value, None)
        for value, item in ((None, 0), ("", 0), ("< it 1", 1), ("yes yes", 1), ("< n", 2), (Odd(), 0), (("yes",), 0)):
            self.refuses(BadText(item), always, rising, value)
            self.refuses(BadText(item), always, Thing(STEPS.format(60)), value)
        self.assertEqual(always(condition="< left 3", thing=Thing(SEATS)), Always([(2,), (1,), (0,)]))
        self.assertEqual(made(thing=Thing(SEATS)).states, ((2,), (1,), (0,)))


class SameThings(Refusing):

    def test_random(self):
        found = [0, 0]
        texts = [text for text in (Maker(seed).text() for seed in range(800)) if not met_told(text)[2]]
        dice = random.Random(5)
        for number in range(500):
            one = dice.choice(texts[:60])
            other = dice.choice(texts[:60]) if number % 2 else self.bent(dice, one)
            if other is None or met_told(other)[2]:
                continue
            paper = same(Thing(one), Thing(other))
            found[bool(paper)] += 1
            self.assertTrue(plain(paper.parts))
            wanted = self.plainly(one, other)
            self.assertEqual(paper, wanted)
        self.assertGreater(min(found), 100)

    def bent(self, dice, text):
        """A text with one number changed."""
        items = text.split(" ")
        places = [place for place, item in enumerate(items) if item in "0123"]
        if not places:
            return None
        items[dice.choice(places)] = dice.choice("0123")
        try:
            return str(Thing(" ".join(items)))
        except BadText:
            return None

    def plainly(self, one, other):
        """What same tells, level by level of lists that both play."""
        states = [met_told(text)[0] for text in (one, other)]
        leads = [dict(zip(told, moves_of_states(text, told))) for text, told in zip((one, other), states)]
        level, pairs = {(states[0][0], states[1][0]): ()}, {(0, 0)}
        while level:
            alone, behind = [], {}
            for (here, there), way in level.items():
                moves = [leads[0][here], leads[1][there]]
                alone += [(way + (move,), number) for number in (0, 1) for move in moves[number] if move not in moves[1 - number]]
                for move in moves[0]:
                    if move in moves[1]:
                        pair = (moves[0][move], moves[1][move])
                        behind[pair] = min(behind.get(pair, way + (move,)), way + (move,))
            if alone:
                return Unlike(*min(alone))
            level = {pair: way for pair, way in behind.items()
                     if (states[0].index(pair[0]), states[1].index(pair[1])) not in pairs}
            pairs |= {(states[0].index(one), states[1].index(other)) for one, other in behind}
        return Same(sorted(pairs))

    def test_unlike_asks(self):
        one, other = Thing("ask a : when yes answer x / ask c : when yes answer y"), Thing("ask b : when yes answer x")
        self.assertEqual(same(one, other), Unlike([("a", "x")], 0))
        self.assertEqual(same(other, one), Unlike([("a", "x")], 1))
        both = Thing("ask c : when yes answer y / ask a : when yes answer x")
        self.assertEqual(same(one, both), Same([(0, 0)]))

    def test_errors(self):
        seats, rising, many = Thing(SEATS), Thing(RISING), Thing(STEPS.format(60))
        silent = Impossible(Silent([("up", "ok")], "up"))
        for value in (None, SEATS, Thing, Odd()):
            self.refuses(BadValue("one"), same, value, value)
            self.refuses(BadValue("other"), same, many, value)
            self.refuses(BadValue("other"), same, rising, value)
        self.refuses(silent, same, rising, many)
        self.refuses(TooMany("states", 60), same, many, rising)
        self.refuses(silent, same, seats, rising)
        self.refuses(TooMany("states", 60), same, seats, many)
        self.assertEqual(same(other=seats, one=seats), Same([(0, 0), (1, 1), (2, 2)]))


class Told(Refusing):

    def test_kinds(self):
        for kind in KINDS + [random_kind(seed) for seed in range(80)]:
            thing = told(kind)
            self.assertEqual(Thing.read(str(thing)), thing)
            self.assertEqual(thing.fields, ("at",))
            self.assertEqual((thing.first, thing.asks), ((kind.first,), kind.asks))
            for state in range(kind.states):
                for ask in range(len(kind.asks)):
                    wanted = [(kind.answers[row[2]], (row[3],)) for row in kind.rows if row[:2] == (state, ask)]
                    self.assertEqual(thing.given((state,), ask), tuple(wanted))
            paper = made(thing)
            self.assertEqual(len(paper.states), len(reachable(kind)))
            self.assertIs(bool(same(thing, told(paper.kind))), True)

    def test_a_long_text(self):
        rows = [(state, ask, answer, (state + 1) % 60) for state in range(60) for ask in range(5) for answer in (0, 11)]
        kind = Kind([f"abcdefghijk{k}" for k in range(5)], [f"abcdefghij{k}" for k in range(10, 22)], 60, 59, rows)
        thing = told(kind)
        self.assertGreater(len(str(thing)), 20000)
        self.assertEqual(made(thing).kind.rows[:2], ((0, 0, 0, 1), (0, 0, 1, 1)))

    def test_errors(self):
        for value in (None, str(KINDS[0]), Thing(SEATS), Kind, Odd()):
            self.refuses(BadKind("kind"), told, value)
        self.assertEqual(str(told(kind=Kind(["a"], ["7"], 1, 0, [(0, 0, 0, 0)]))),
                         "number at 0 0 0 / ask a : may = at 0 answer 7 set at 0")


class Papers(Refusing):

    def test_forms(self):
        kind = KINDS[0]
        for paper, word, parts, truth in (
                (Made(states=[[1, [2]]], kind=kind), "made", (kind, ((1, (2,)),)), True),
                (Always(states=[[1]]), "always", (((1,),),), True), (Same(pairs=[[0, 0]]), "same", (((0, 0),),), True),
                (Silent(ask="a", operations=[["b", "c"]]), "silent", ((("b", "c"),), "a"), False),
                (Sometimes(operations=[]), "sometimes", ((),), False), (Unlike(number=1, operations=[]), "unlike", ((), 1), False)):
            self.assertEqual((paper.word, paper.parts, bool(paper)), (word, parts, truth))
            self.assertIs(type(paper).__bases__[0], Paper if truth else Denial)
        self.assertIs(Always([1]) == Same([1]), False)
        self.assertEqual(Made(kind, [[0]]), Made(kind, ((0,),)))
        self.assertIs(Made(kind, []) == Made(KINDS[1], []), False)
        self.assertEqual((Unlike([], 1).number, Silent([], "a").ask, Made(kind, [1]).kind), (1, "a", kind))

    def test_what_is_told_can_be_played(self):
        for seed in range(200):
            text = Maker(seed).text()
            paper = made(Thing(text)) if met_told(text)[2] != ("many",) else None
            if isinstance(paper, Silent):
                state = led_by(text, paper.operations)
                self.assertEqual(Thing(text).given(state, Thing(text).asks.index(paper.ask)), ())
            elif paper:
                # The made kind plays just what the thing plays.
                for moves, state in Plain(text).lists(Thing(text).first, 2):
                    numbers = [(paper.kind.asks.index(ask), paper.kind.answers.index(answer)) for ask, answer in moves]
                    self.assertEqual(paper.states[leads_to(paper.kind, 0, numbers)], state)
                self.assertTrue(can_as(paper.kind, 0, 0))
