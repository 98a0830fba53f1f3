"""Papers on what things make."""

import random

from fewvisits.check_things import shows_always, shows_made, shows_same
from fewvisits.errors import BadText, BadValue
from fewvisits.kinds import Kind
from fewvisits.papers import Denial, Paper
from fewvisits.things import Thing
from fewvisits.tongue import Always, Made, Same, Silent, Sometimes, Unlike, always, made, same
from tests.naive import NO_INTEGERS, NO_LISTS, Odd, OwnInt, OwnList, OwnStr
from tests.naive_things import Maker, Plain, led_by, met_told
from tests.refusing import Refusing
from tests.test_tongue import RISING, SEATS, STEPS, kind_told

SEATED = Thing(SEATS)


def some_words(dice, text, longest):
    """Some list of operations of a thing, most of them played from the first state."""
    thing = Plain(text)
    moves, state = [], thing.first()
    for _ in range(dice.randrange(longest + 1)):
        given = [(ask[0], answer, behind) for number, ask in enumerate(thing.asks)
                 for answer, behind in thing.given(state, number)]
        if not given or dice.random() < 0.1:
            moves.append((dice.choice(thing.asks)[0], dice.choice(["a", "b", "z", "a0"])))
            return moves
        ask, answer, state = dice.choice(given)
        moves.append((ask, answer))
    return moves


def renumbered(paper, order):
    """A Made with its states in another order."""
    kind = paper.kind
    place = {old: new for new, old in enumerate(order)}
    rows = sorted((place[state], ask, answer, place[behind]) for state, ask, answer, behind in kind.rows)
    return Made(Kind(kind.asks, kind.answers, kind.states, place[kind.first], rows),
                [list(paper.states[old]) for old in order])


class ShowsMade(Refusing):

    def test_random(self):
        found = {}
        for seed in range(400):
            dice = random.Random(seed)
            text = Maker(seed).text()
            thing = Thing(text)
            states, _, ends = met_told(text)
            if ends is None:
                paper = made(thing)
                order = list(range(len(states)))
                dice.shuffle(order)
                other = renumbered(paper, order)
                self.assertIs(shows_made(thing, paper), True)
                self.assertIs(shows_made(thing, other), True)
                self.bent(dice, thing, other)
            for _ in range(4):
                moves = some_words(dice, text, 3)
                ask = dice.choice(thing.asks)
                state = led_by(text, moves)
                wanted = state is not None and not thing.given(state, thing.asks.index(ask))
                found[wanted] = found.get(wanted, 0) + 1
                self.assertIs(shows_made(thing, Silent([list(move) for move in moves], ask)), wanted)
        self.assertGreater(min(found.values()), 50)

    def bent(self, dice, thing, paper):
        """A Made with one thing changed is right no more."""
        kind, states = paper.kind, paper.states
        rows = list(kind.rows)
        place = dice.randrange(len(rows))
        for other in range(kind.states):
            if other != rows[place][3]:
                more = rows[:place] + [rows[place][:3] + (other,)] + rows[place + 1:]
                self.assertIs(shows_made(thing, Made(Kind(kind.asks, kind.answers, kind.states, kind.first, more), states)), False)
        for first in range(kind.states):
            told = Made(Kind(kind.asks, kind.answers, kind.states, first, rows), states)
            self.assertIs(shows_made(thing, told), first == kind.first)
        extra = [(state, ask, answer, 0) for state in range(kind.states) for ask in range(len(kind.asks))
                 for answer in range(len(kind.answers)) if (state, ask, answer) not in [row[:3] for row in rows]]
        for row in extra[:3]:
            more = Kind(kind.asks, kind.answers, kind.states, kind.first, sorted(rows + [row]))
            self.assertIs(shows_made(thing, Made(more, states)), False)
        if len(rows) > kind.states * len(kind.asks):
            heads = [row[:2] for row in rows]
            twice = [row for row in rows if heads.count(row[:2]) > 1][0]
            less = Kind(kind.asks, kind.answers, kind.states, kind.first, [row for row in rows if row != twice])
            self.assertIs(shows_made(thing, Made(less, states)), False)
        if kind.states > 1:
            self.assertIs(shows_made(thing, Made(kind, states[1:] + states[:1])), False)
            self.assertIs(shows_made(thing, Made(kind, states[:-1])), False)
            self.assertIs(shows_made(thing, Made(kind, states[:-1] + states[:1])), False)
        self.assertIs(shows_made(thing, Made(kind, states + states[:1])), False)

    def test_just_the_met_states_and_answers(self):
        kind, states = made(SEATED).kind, made(SEATED).states
        # A fourth state that is none, or is not met, and an answer that is never given.
        deep = Thing("number left 0 3 1 / ask go : when = left 3 answer go set left 3 : when = left 1 answer go set left 0 : when yes "
                     "answer go set left 1")
        told = Kind(["go"], ["go"], 3, 0, [(0, 0, 0, 1), (1, 0, 0, 0), (2, 0, 0, 2)])
        self.assertIs(shows_made(deep, Made(told, [(1,), (0,), (3,)])), False)
        self.assertIs(shows_made(deep, made(deep)), True)
        more = Kind(kind.asks, ("done", "full", "none", "odd"), 3, 0, kind.rows)
        self.assertIs(shows_made(SEATED, Made(more, states)), False)
        rows = sorted((state, ask, (1, 0, 2)[answer], behind) for state, ask, answer, behind in kind.rows)
        self.assertIs(shows_made(SEATED, Made(Kind(kind.asks, ("full", "done", "none"), 3, 0, rows), states)), False)
        swapped = sorted((state, 1 - ask, answer, behind) for state, ask, answer, behind in kind.rows)
        self.assertIs(shows_made(SEATED, Made(Kind(("back", "take"), kind.answers, 3, 0, swapped), states)), False)
        self.assertIs(shows_made(SEATED, Made(Kind(("take", "give"), kind.answers, 3, 0, kind.rows), states)), False)

    def test_bent_parts(self):
        kind, states = made(SEATED).kind, made(SEATED).states
        self.assertIs(shows_made(SEATED, Made(kind, OwnList([[OwnInt(2)], (1,), [0]]))), True)
        for told in NO_LISTS + [[], [(2,), (1,), 0], [(2,), (1,), (False,)], [(2,), (1,), (0.0,)], [(2,), (1,), (3,)],
                                [(2,), (1,), (0, 0)], [(2,), (True,), (0,)], [Odd(), (1,), (0,)], [(2,), (1,), (1,)]]:
            self.assertIs(shows_made(SEATED, Made(kind, told)), False)
        for other in (None, str(kind), Kind, kind.rows, Odd(), made(SEATED)):
            self.assertIs(shows_made(SEATED, Made(other, states)), False)
        for value in NO_LISTS + [Paper("made", kind, states), (kind, states), Always(states), Denial("silent", (), "take")]:
            self.assertIs(shows_made(SEATED, value), False)
        rising = Thing(RISING)
        self.assertIs(shows_made(rising, Silent([["up", "ok"]], OwnStr("up"))), True)
        for operations in NO_LISTS + [[], [("up", "ok"), ("up", "ok")], [("up",)], [("up", "ok", 0)], ["up"], [("up", 0)], [(0, 0)],
                                      [("down", "ok")], [("up", "no")], [None], [Odd()], [(Odd(), "ok")], [("up", Odd())]]:
            self.assertIs(shows_made(rising, Silent(operations, "up")), False)
        for ask in (None, 0, "down", "", Odd(), ["up"], "u"):
            self.assertIs(shows_made(rising, Silent([("up", "ok")], ask)), False)

    def test_neither_impossible_nor_too_many(self):
        for text in (RISING, STEPS.format(60), STEPS.format(999)):
            thing = Thing(text)
            for value in (None, made(SEATED), Silent((), "up"), Made(None, ())):
                self.assertIs(shows_made(thing, value), False)
                self.assertIs(shows_always(thing, "yes", value), False)
                self.assertIs(shows_same(thing, thing, value), False)
        kind = kind_told(STEPS.format(59), [(k,) for k in range(60)])
        self.assertIs(shows_made(Thing(STEPS.format(60)), Made(kind, [(k,) for k in range(60)])), False)
        self.assertIs(shows_made(Thing(STEPS.format(59)), Made(kind, [(k,) for k in range(60)])), True)


class ShowsAlways(Refusing):

    def test_random(self):
        found = [0, 0, 0, 0]
        for seed in range(500):
            dice = random.Random(seed)
            maker = Maker(seed)
            text, condition = maker.text(), maker.condition(1, [])
            thing, told = Thing(text), Plain(text)
            states = met_told(text)[0]
            # Also of a silent thing all met states are wanted.
            for state in states:
                states += [behind for number in range(len(thing.asks)) for _, behind in told.given(state, number)
                           if behind not in states]
            so = all(told.so(condition.split(" "), state) for state in states)
            found[so] += 1
            dice.shuffle(states)
            self.assertIs(shows_always(thing, condition, Always([list(state) for state in states])), so)
            if len(states) > 1:
                gone = dice.choice(states)
                self.assertIs(shows_always(thing, condition, Always([state for state in states if state != gone])), False)
            self.assertIs(shows_always(thing, condition, Always(states + states[:1])), False)
            for _ in range(3):
                moves = some_words(dice, text, 3)
                state = led_by(text, moves)
                wanted = state is not None and not told.so(condition.split(" "), state)
                found[2 + wanted] += 1
                self.assertIs(shows_always(thing, condition, Sometimes(moves)), wanted)
            if met_told(text)[2] is None:
                self.assertIs(shows_always(thing, condition, always(thing, condition)), True)
        self.assertGreater(min(found), 60)

    def test_more_than_the_met_ones(self):
        thing = Thing("number n 0 99 0 / ask go : when < n 50 answer ok : when yes answer up set n + n 1 : when yes answer no")
        self.assertIs(shows_always(thing, "< n 99", Always([(0,), (7,)])), True)
        self.assertIs(shows_always(thing, "< n 99", Always([(0,), (97,)])), False)
        self.assertIs(shows_always(thing, "yes", Always([(99,), (0,), (98,)])), True)
        self.assertIs(shows_always(thing, "< n 99", Always([(99,), (0,), (98,)])), False)
        self.assertIs(shows_always(thing, "yes", Always([(7,)])), False)
        self.assertIs(shows_always(thing, "yes", Always([])), False)
        fifty = [(k,) for k in range(50)]
        self.assertIs(shows_always(thing, "yes", Always(fifty + [(k,) for k in range(90, 100)])), True)
        self.assertIs(shows_always(thing, "yes", Always(fifty + [(k,) for k in range(89, 100)])), False)
        silent = Thing("number n 0 1 0 / ask up : when yes answer ok set n + n 1")
        self.assertIs(shows_always(silent, "yes", Always([(0,), (1,)])), True)
        self.assertIs(shows_always(silent, "yes", Always([(0,)])), False)
        self.assertIs(shows_always(silent, "= n 0", Sometimes([("up", "ok")])), True)

    def test_bent(self):
        self.assertIs(shows_always(SEATED, "< left 3", Always([[0], [2], (1,)])), True)
        for states in NO_LISTS + [[(0,), (2,)], [(0,), (2,), (True,)], [(0,), (2,), (1.0,)], [(0,), (2,), (1,), (3,)],
                                  [(0,), (2,), (1,), None], [(0,), (2,), (1,), Odd()], [0, 1, 2], [(0,), (2,), (1,), (1,)]]:
            self.assertIs(shows_always(SEATED, "< left 3", Always(states)), False)
        self.assertIs(shows_always(SEATED, "= left 2", Sometimes([["take", "done"]])), True)
        for moves in NO_LISTS + [[], [("take", "none")], [("take", "done", 0)], [("take", "done"), None], [("take", "done"), ("take", 1)]]:
            self.assertIs(shows_always(SEATED, "= left 2", Sometimes(moves)), False)
        for value in NO_LISTS + [Paper("always", [(0,), (1,), (2,)]), [(0,), (1,), (2,)], Same([(0,), (1,), (2,)]),
                                 Denial("sometimes", [("take", "done")])]:
            self.assertIs(shows_always(SEATED, "= left 2", value), False)

    def test_errors(self):
        for thing in (None, SEATS, Thing, Odd()):
            self.refuses(BadValue("thing"), shows_always, thing, None, None)
            self.refuses(BadValue("thing"), shows_made, thing, None)
            self.refuses(BadValue("one"), shows_same, thing, thing, None)
            self.refuses(BadValue("other"), shows_same, SEATED, thing, Odd())
        for condition, item in ((None, 0), ("no", 0), ("< left", 2), ("= it 1", 1), ("yes yes", 1), (Odd(), 0)):
            self.refuses(BadText(item), shows_always, SEATED, condition, Odd())


class ShowsSame(Refusing):

    def test_random(self):
        found = [0, 0, 0, 0]
        texts = [text for text in (Maker(seed).text() for seed in range(600)) if met_told(text)[2] is None][:70]
        for seed in range(700):
            dice = random.Random(seed)
            texts_here = [dice.choice(texts)] * 2 if seed % 2 else [dice.choice(texts), dice.choice(texts)]
            one, other = [Thing(text) for text in texts_here]
            leads = [[{(one.asks[k] if n == 0 else other.asks[k], answer): states.index(behind)
                       for k in range(len((one, other)[n].asks)) for answer, behind in Plain(text).given(state, k)}
                      for state in states] for n, text in enumerate(texts_here) for states in [met_told(text)[0]]]
            paper = same(one, other)
            self.assertIs(shows_same(one, other, paper), True)
            pairs = list(paper.pairs) if paper else [(0, 0)]
            if dice.random() < 0.5:
                pairs.append((dice.randrange(len(leads[0])), dice.randrange(len(leads[1]))))
            if dice.random() < 0.3:
                pairs.remove(dice.choice(pairs))
            dice.shuffle(pairs)
            wanted = (0, 0) in pairs and len(set(pairs)) == len(pairs) and all(
                set(leads[0][here]) == set(leads[1][there]) and
                all((leads[0][here][move], leads[1][there][move]) in pairs for move in leads[0][here]) for here, there in pairs)
            found[wanted] += 1
            self.assertIs(shows_same(one, other, Same([list(pair) for pair in pairs])), wanted)
            number = dice.randrange(2)
            moves = some_words(dice, texts_here[number], 3)
            wanted = led_by(texts_here[number], moves) is not None and led_by(texts_here[1 - number], moves) is None
            found[2 + wanted] += 1
            self.assertIs(shows_same(one, other, Unlike(moves, number)), wanted)
        self.assertGreater(min(found), 60)

    def test_silent_or_too_many(self):
        rising, many, sixty = Thing(RISING), Thing(STEPS.format(60)), Thing(STEPS.format(59))
        pairs = [(k, k) for k in range(60)]
        self.assertIs(shows_same(sixty, sixty, Same(pairs)), True)
        self.assertIs(shows_same(many, many, Same(pairs + [(60, 60)])), False)
        self.assertIs(shows_same(many, many, Same(pairs)), False)
        self.assertIs(shows_same(sixty, many, Same(pairs)), False)
        self.assertIs(shows_same(rising, rising, Same([(0, 0), (1, 1)])), False)
        self.assertIs(shows_same(rising, rising, Same([(0, 0)])), False)
        # An Unlike may be right all the same.
        self.assertIs(shows_same(sixty, many, Unlike([("up", "ok")] * 60, 1)), True)
        self.assertIs(shows_same(sixty, many, Unlike([("up", "ok")] * 60, 0)), False)
        self.assertIs(shows_same(rising, many, Unlike([("up", "ok"), ("up", "ok")], 1)), True)
        self.assertIs(shows_same(many, rising, Unlike([("up", "ok"), ("up", "ok")], 0)), True)

    def test_bent(self):
        other = Thing(SEATS.replace("number left 0 2 2", "number left -1 1 1"))
        self.assertIs(shows_same(SEATED, other, Same([(0, 0), (1, 1), (2, 2)])), True)
        right = [(0, 0), (1, 1), (2, 2)]
        for pairs in NO_LISTS + [[], right[:2], right[1:], right + right[:1], right + [(0, 1)], right + [(3, 3)], right + [(3, 0)], right + [(0, 3)],
                                 right + [(-1, 0)], right + [(-1, 2)], right + [(2, -1)],
                                 [(0, 0), (1, True), (2, 2)], [(0.0, 0), (1, 1), (2, 2)], right + [None], right + [(1,)],
                                 right + [(0, 0, 0)], right + [Odd()], right + [(0, Odd())], [0, 1, 2]]:
            self.assertIs(shows_same(SEATED, other, Same(pairs)), False)
        lone = Thing("number left 0 1 1 / " + SEATS.split(" / ", 1)[1])
        moves = [("take", "done"), ("take", "done")]
        self.assertIs(shows_same(SEATED, lone, Unlike(moves, 0)), True)
        self.assertIs(shows_same(lone, SEATED, Unlike(moves, 1)), True)
        self.assertIs(shows_same(lone, SEATED, Unlike(moves, 0)), False)
        for number in NO_INTEGERS + [1, 2, -1]:
            self.assertIs(shows_same(SEATED, lone, Unlike(moves, number)), False)
        for operations in NO_LISTS + [[], moves[:1], [("take", "none")] * 2, moves + [None], moves + [("take",)], moves + [(0, 0)]]:
            self.assertIs(shows_same(SEATED, lone, Unlike(operations, 0)), False)
        for value in NO_LISTS + [right, Paper("same", right), Denial("unlike", moves, 0), Sometimes(moves)]:
            self.assertIs(shows_same(SEATED, other, value), False)
