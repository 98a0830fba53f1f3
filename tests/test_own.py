"""The own rule, and papers on it."""

import random
import unittest

from fewvisits.check_own import shows_keeps
from fewvisits.errors import BadValue, TooMany
from fewvisits.histories import History
from fewvisits.kinds import Kind
from fewvisits.makers import bag, chest, counter, purse, tickets
from fewvisits.own import Breaks, Keeps, closed_lots, keeps
from fewvisits.papers import Denial, Paper
from tests.naive import NO_LISTS, Odd, OwnInt, OwnList, leads_to, plain
from tests.naive_deals import done_by, ended_at, holds, leaves, orders_of, seen_at, some_events
from tests.test_orders import bare, mild
from tests.refusing import Refusing

COINS = Kind(["put", "take"], ["ok", "none"], 3, 1,
             [(0, 0, 0, 1), (0, 1, 1, 0), (1, 0, 0, 2), (1, 1, 0, 0), (2, 0, 1, 2), (2, 1, 0, 1)])
KINDS = [COINS, tickets(3), bag(2, 2), counter(2), purse(3, 1)]
GIVES = History(COINS, [("ask", 0, 0), ("answer", 0, 0), ("ask", 2, 1), ("answer", 2, 0), ("ready", 2), ("ready", 0),
                        ("yes", 2), ("yes", 0)])


def lots_told(events):
    """The closed lots, as they are told of."""
    ended, seen = ended_at(events), seen_at(events)
    lots = [()]
    for deal in ended:
        lots += [lot + (deal,) for lot in lots]
    closed = [lot for lot in lots if all(one in lot for one, other in seen if other in lot)]
    return sorted(closed, key=lambda lot: (len(lot), lot))


def right_rooms(kind, events, rooms):
    """Whether lots of states show that the rule is kept, by looking along the rows."""
    if kind.first not in rooms[()]:
        return False
    for lot in rooms:
        for deal in lot:
            lesser = tuple(other for other in lot if other != deal)
            for state in rooms.get(lesser, ()):
                if leads_to(kind, state, done_by(events, deal)) not in rooms[lot]:
                    return False
    return True


def some_history(seed):
    kind = mild(KINDS[seed % 5]) if seed % 3 else KINDS[seed % 5]
    many = 10 + seed % 15
    return kind, some_events(seed, kind, many, (0, 2, 5, 9), noes=seed % 4 == 0)


class Own(Refusing):

    def test_random(self):
        met = [0, 0]
        for seed in range(200):
            kind, events = some_history(seed)
            history = History(kind, events)
            lots = lots_told(events)
            self.assertEqual(closed_lots(history), tuple(lots))
            seen = seen_at(events)
            orders = [order for order in orders_of(history.ended) if holds(seen, order)]
            broken = [order for order in orders if leaves(kind, events, order) is None]
            found = keeps(history)
            met[bool(found)] += 1
            if broken:
                self.assertEqual(found, Breaks(broken[0]))
            else:
                rooms = [(lot, tuple(sorted({leaves(kind, events, order) for order in orders_of(lot)
                                             if holds(seen, order)}))) for lot in lots]
                self.assertEqual(found, Keeps(rooms))
            self.assertTrue(plain(found.parts))
            self.assertIs(shows_keeps(history, found), True)
            for order in orders_of(history.ended):
                self.assertIs(shows_keeps(history, Breaks(list(order))), order in broken)
        self.assertGreater(min(met), 40)

    def test_rooms_with_more_states(self):
        told = [0, 0]
        for seed in range(200):
            dice = random.Random(seed)
            kind, events = some_history(seed)
            history = History(kind, events)
            lots = lots_told(events)
            known = dict(keeps(history).rooms) if keeps(history) else {}
            rooms = {}
            for lot in lots:
                extra = [state for state in range(kind.states) if dice.random() < 0.2]
                rooms[lot] = tuple(sorted(set(known.get(lot, ())) | set(extra)))
                if dice.random() < 0.1:
                    rooms[lot] = rooms[lot][1:]
            wanted = right_rooms(kind, events, rooms)
            told[wanted] += 1
            paper = Keeps([[list(lot), list(rooms[lot])] for lot in lots])
            self.assertIs(shows_keeps(history, paper), wanted)
        self.assertGreater(min(told), 25)

    def test_all_states(self):
        # Deals that asked nothing lead from each state to itself.
        history = bare(3)
        lots = closed_lots(history)
        everything = tuple(range(4))
        self.assertIs(shows_keeps(history, Keeps([(lot, everything) for lot in lots])), True)
        self.assertIs(shows_keeps(history, Keeps([(lot, (0,)) for lot in lots])), True)
        self.assertIs(shows_keeps(history, Keeps([(lot, (1,)) for lot in lots])), False)
        self.assertIs(shows_keeps(history, Keeps([(lot, (0, 4)) for lot in lots])), False)

    def test_no_deal(self):
        for events in ([], [("ask", 0, 0), ("no", 4), ("ready", 5)]):
            history = History(COINS, events)
            self.assertEqual(closed_lots(history), ((),))
            self.assertEqual(keeps(history), Keeps([((), (1,))]))
            self.assertIs(shows_keeps(history, Keeps([[[], [0, 1]]])), True)
            for value in (Keeps([]), Keeps([[[], []]]), Keeps([[[], [0]]]), Breaks([])):
                self.assertIs(shows_keeps(history, value), False)

    def test_many_deals(self):
        blind = [("ready", deal) for deal in range(7)] + [("yes", deal) for deal in range(7)]
        seven = History(chest(1), blind)
        self.assertEqual(len(closed_lots(seven)), 128)
        self.assertEqual(len(keeps(seven).rooms), 128)
        self.assertIs(shows_keeps(seven, keeps(seven)), True)
        self.assertEqual(closed_lots(bare(7)), tuple(tuple(range(k)) for k in range(8)))
        eight = bare(8)
        for function in (closed_lots, keeps):
            self.refuses(TooMany("deals", 7), function, eight)
        for value in (Keeps([]), Breaks(list(range(8))), None, Odd()):
            self.refuses(TooMany("deals", 7), shows_keeps, eight, value)

    def test_the_first_order_that_breaks(self):
        # Six put a coin, unseen by one another, and one takes just six: it can stand last alone.
        rows = [(k, 0, 0, min(k + 1, 7)) for k in range(8)] + [(k, 1, 1, k) for k in range(8) if k != 6] + [(6, 1, 0, 0)]
        kind = Kind(["put", "take"], ["ok", "no"], 8, 0, sorted(rows))
        events = [event for deal in range(6) for event in (("ask", deal, 0), ("answer", deal, 0))]
        events += [("ask", 6, 1), ("answer", 6, 0)]
        events += [(word, deal) for word in ("ready", "yes") for deal in range(7)]
        history = History(kind, events)
        self.assertEqual(keeps(history), Breaks([0, 1, 2, 3, 4, 6, 5]))
        self.assertIs(shows_keeps(history, Breaks([6, 0, 1, 2, 3, 4, 5])), True)
        self.assertIs(shows_keeps(history, Breaks([0, 1, 2, 3, 4, 5, 6])), False)

    def test_what_is_left_holds_what_is_seen(self):
        # 1 has seen 5: so behind the beginning (0, 3), which breaks, 5 comes ahead of 1.
        events = [("ask", 3, 0), ("answer", 3, 2), ("ready", 0), ("ready", 3), ("ready", 5), ("yes", 5), ("ready", 1),
                  ("yes", 0), ("yes", 1), ("yes", 3)]
        history = History(tickets(3), events)
        self.assertEqual(keeps(history), Breaks([0, 3, 5, 1]))
        self.assertIs(shows_keeps(history, Breaks([3, 0, 5, 1])), True)
        self.assertIs(shows_keeps(history, Breaks([0, 3, 1, 5])), False)

    def test_errors(self):
        for value in (None, COINS, GIVES.events, History, Odd()):
            for function in (closed_lots, keeps):
                self.refuses(BadValue("history"), function, value)
            self.refuses(BadValue("history"), shows_keeps, value, None)
        self.assertEqual(closed_lots(history=GIVES), ((), (0,), (2,), (0, 2)))
        self.assertIs(bool(keeps(history=GIVES)), True)

    def test_bent_papers(self):
        right = [[[], [1]], [[0], [2]], [[2], [0]], [[0, 2], [1]]]
        self.assertIs(shows_keeps(GIVES, Keeps(right)), True)
        self.assertIs(shows_keeps(value=Keeps(rooms=OwnList(right)), history=GIVES), True)
        for place, pair in ((0, [[], []]), (0, [[], [0]]), (0, [[], [1, 1]]), (0, [[], [True]]), (0, [[], [1.0]]),
                            (0, [[], [1, 2]]), (1, [[0], [1]]), (1, [[0], [2, 1]]), (1, [[0], [3]]), (1, [[0], [-1, 2]]),
                            (1, [[False], [2]]), (1, [[0.0], [2]]), (1, [[1], [2]]), (1, [0, [2]]), (1, [[0], 2]),
                            (1, [[0]]), (1, [[0], [2], []]), (1, None), (1, Odd()), (1, [[0], None]), (1, [Odd(), [2]]),
                            (1, [[0], [Odd()]]), (3, [[2, 0], [1]]), (3, [[0, 2], []]), (2, [[2], []]), (1, "02")):
            self.assertIs(shows_keeps(GIVES, Keeps(right[:place] + [pair] + right[place + 1:])), False, (place, pair))
        for value in NO_LISTS + [right, Keeps(right[:3]), Keeps(right[1:]), Keeps(right + right[3:]), Keeps([]),
                                 Keeps(None), Keeps("ab"), Keeps(Odd()), Keeps([right[0], right[2], right[1], right[3]]),
                                 Paper("keeps", right), Denial("keeps", right), Breaks([0, 2]), Breaks([2, 0])]:
            self.assertIs(shows_keeps(GIVES, value), False)

    def test_bent_breaks(self):
        events = [("ask", 0, 1), ("answer", 0, 0), ("ask", 1, 1), ("answer", 1, 1)]
        blind = History(COINS, events + [(word, deal) for word in ("ready", "yes") for deal in (0, 1)])
        self.assertIs(shows_keeps(blind, Breaks([1, 0])), True)
        self.assertIs(shows_keeps(blind, Breaks(order=[OwnInt(1), 0])), True)
        for order in NO_LISTS + [[0, 1], [1], [True, 0], [1, False], [1, 0.0], [1, 0, 0], [1, None], [Odd(), 0], [[1, 0]]]:
            self.assertIs(shows_keeps(blind, Breaks(order)), False)
        for value in (Denial("breaks", (1, 0)), (1, 0), Keeps([[[], [1]], [[0], [0]], [[1], [0]], [[0, 1], [0]]])):
            self.assertIs(shows_keeps(blind, value), False)


if __name__ == "__main__":
    unittest.main()
