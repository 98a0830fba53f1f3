"""Kinds that are made, against a telling of what they do."""

import itertools
import unittest

from fewvisits.errors import BadNumber, FewError, TooMany
from fewvisits.kinds import Kind
from fewvisits.makers import bag, chest, counter, line, pile, purse, shelf, tickets
from tests.naive import NO_INTEGERS, OwnInt, plain
from tests.refusing import Refusing


def told_by(asks, answers, states, first, rule):
    """The kind whose rule tells, for a state of any form and the word of an ask, pairs of an answer and a state."""
    rows = []
    for state in states:
        for ask in asks:
            for answer, behind in rule(state, ask):
                rows.append((states.index(state), asks.index(ask), answers.index(answer), states.index(behind)))
    return Kind(asks, answers, len(states), states.index(first), sorted(rows))


def words(word, many):
    return [word + str(k) for k in range(many)]


def purse_told(most, first):
    def rule(held, ask):
        if ask == "read":
            return [("n%d" % held, held)]
        many = int(ask[-1])
        if ask.startswith("put"):
            return [("ok", held + many)] if held + many <= most else [("full", held)]
        return [("ok", held - many)] if held - many >= 0 else [("short", held)]
    return told_by(["put1", "put2", "take1", "take2", "read"], ["ok", "full", "short"] + words("n", most + 1),
                   list(range(most + 1)), first, rule)


def tickets_told(many):
    def rule(given, ask):
        return [("n%d" % given, given + 1)] if given < many else [("none", given)]
    return told_by(["draw"], words("n", many) + ["none"], list(range(many + 1)), 0, rule)


def counter_told(most):
    def rule(held, ask):
        if ask == "read":
            return [("n%d" % held, held)]
        return [("ok", (held + (1 if ask == "up" else -1)) % (most + 1))]
    return told_by(["up", "down", "read"], ["ok"] + words("n", most + 1), list(range(most + 1)), 0, rule)


def chest_told(items):
    def rule(held, ask):
        item = 2 ** int(ask[-1])
        within = held // item % 2 == 1
        if ask.startswith("put"):
            return [("there", held)] if within else [("ok", held + item)]
        return [("ok", held - item)] if within else [("gone", held)]
    return told_by(words("put", items) + words("take", items), ["ok", "there", "gone"], list(range(2 ** items)), 0, rule)


def shelf_told(worths, first):
    def rule(held, ask):
        return [("n%d" % held, held)] if ask == "read" else [("ok", int(ask[3:]))]
    return told_by(words("set", worths) + ["read"], ["ok"] + words("n", worths), list(range(worths)), first, rule)


def holder_told(which, room, items):
    lists = []
    for many in range(room + 1):
        lists += list(itertools.product(range(items), repeat=many))
    if which == "bag":
        lists = [held for held in lists if list(held) == sorted(held)]

    def rule(held, ask):
        if ask != "next":
            behind = held + (int(ask[3:]),)
            if which == "bag":
                behind = tuple(sorted(behind))
            return [("ok", behind)] if len(held) < room else [("full", held)]
        if not held:
            return [("empty", held)]
        if which == "line":
            return [("i%d" % held[0], held[1:])]
        if which == "pile":
            return [("i%d" % held[-1], held[:-1])]
        found = []
        for item in sorted(set(held)):
            left = list(held)
            left.remove(item)
            found.append(("i%d" % item, tuple(left)))
        return found
    return told_by(words("add", items) + ["next"], ["ok", "full", "empty"] + words("i", items), lists, (), rule)


class Makers(Refusing):

    def test_purses(self):
        for most in range(1, 9):
            for first in range(most + 1):
                self.assertEqual(purse(most, first), purse_told(most, first))

    def test_tickets(self):
        for many in range(1, 12):
            self.assertEqual(tickets(many), tickets_told(many))

    def test_counters(self):
        for most in range(1, 11):
            self.assertEqual(counter(most), counter_told(most))

    def test_chests(self):
        for items in range(1, 5):
            self.assertEqual(chest(items), chest_told(items))

    def test_shelves(self):
        for worths in range(2, 8):
            for first in range(worths):
                self.assertEqual(shelf(worths, first), shelf_told(worths, first))

    def test_lines_piles_and_bags(self):
        made = {"line": line, "pile": pile, "bag": bag}
        fitting = []
        for which in made:
            for room in range(1, 9):
                for items in range(1, 4):
                    many = sum(items ** k for k in range(room + 1))
                    if which == "bag":
                        many = sum(len(list(itertools.combinations_with_replacement(range(items), k)))
                                   for k in range(room + 1))
                    if many > 60:
                        self.refuses(TooMany("states", 60), made[which], room, items)
                    else:
                        fitting.append((which, room, items))
                        self.assertEqual(made[which](room, items), holder_told(which, room, items))
        self.assertIn(("bag", 5, 3), fitting)
        self.assertIn(("line", 4, 2), fitting)
        self.assertNotIn(("pile", 5, 2), fitting)

    def test_by_name(self):
        self.assertEqual(purse(first=1, most=3), purse(3, 1))
        self.assertEqual(tickets(many=2), tickets(2))
        self.assertEqual(counter(most=2), counter(2))
        self.assertEqual(chest(items=2), chest(2))
        self.assertEqual(shelf(first=1, worths=3), shelf(3, 1))
        for made in (line, pile, bag):
            self.assertEqual(made(items=1, room=2), made(2, 1))

    def test_sizes_just_beyond(self):
        for made, part, least, most in ((tickets, "many", 1, 11), (counter, "most", 1, 10), (chest, "items", 1, 4)):
            for value in [least - 1, most + 1, -1, 10 ** 59] + NO_INTEGERS:
                self.refuses(BadNumber(part), made, value)
            made(least)
            made(most)
        for value in [0, 9] + NO_INTEGERS:
            self.refuses(BadNumber("most"), purse, value, 0)
            self.refuses(BadNumber("most"), purse, value, None)
        for value in [-1, 4] + NO_INTEGERS:
            self.refuses(BadNumber("first"), purse, 3, value)
        for value in [1, 8] + NO_INTEGERS:
            self.refuses(BadNumber("worths"), shelf, value, 0)
            self.refuses(BadNumber("worths"), shelf, value, -1)
        for value in [-1, 2] + NO_INTEGERS:
            self.refuses(BadNumber("first"), shelf, 2, value)
        for made in (line, pile, bag):
            for value in [0, 9] + NO_INTEGERS:
                self.refuses(BadNumber("room"), made, value, 1)
                self.refuses(BadNumber("room"), made, value, 4)
            for value in [0, 4] + NO_INTEGERS:
                self.refuses(BadNumber("items"), made, 1, value)
                self.refuses(BadNumber("items"), made, 8, value)
            self.refuses(TooMany("states", 60), made, 8, 3)
            self.refuses(TooMany("states", 60), made, OwnInt(8), OwnInt(3))

    def test_no_classes_of_their_own(self):
        for kind in (purse(OwnInt(3), OwnInt(1)), shelf(OwnInt(3), OwnInt(2)), tickets(OwnInt(3)), counter(OwnInt(2)),
                     chest(OwnInt(2)), line(OwnInt(2), OwnInt(2)), bag(OwnInt(2), OwnInt(2))):
            self.assertTrue(plain((kind.asks, kind.answers, kind.states, kind.first, kind.rows)))
            self.assertEqual(Kind.read(str(kind)), kind)

    def test_misfits_are_few_errors(self):
        with self.assertRaises(FewError):
            tickets(12)


if __name__ == "__main__":
    unittest.main()
