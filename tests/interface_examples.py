"""The examples of the interface, section by section, as they stand; later ones use names of earlier ones."""

CHECKS = """\
>>> [is_integer(True), is_within(3, None, 3), is_lot([0, 2], 3), is_lot([2, 0], 3), is_lot((), 0), is_lot([0, 3], 3)]
[False, True, True, False, True, False]
>>> [is_word("take2"), is_word(""), is_word("Take"), is_word("a b"), is_word("abcdefghijklm"), is_word(7)]
[True, False, False, False, False, False]
"""

PAPERS = """\
>>> note = Paper("note", [1, (2, [3])])
>>> [note.parts, bool(note), bool(Denial("no")), note == Denial("note", [1, (2, [3])]), fixed([[], {"a": [1]}])]
[((1, (2, (3,))),), True, False, False, ((), {'a': [1]})]
"""

KINDS = """\
>>> box = Kind(["put", "take"], ["ok", "short"], 2, 0, [(0, 0, 0, 1), (0, 1, 1, 0), (1, 0, 0, 1), (1, 1, 0, 0)])
>>> [box.asks, box.states, box.rows[1], str(box)]
[('put', 'take'), 2, (0, 1, 1, 0), 'asks put take / answers ok short / states 2 first 0 / 0 0 0 1 / 0 1 1 0 / 1 0 0 1 / 1 1 0 0']
>>> [is_sure(box), operations_of(box), Kind.read(str(box)) == box]
[True, ((0, 0), (1, 0), (1, 1)), True]
>>> Kind(["put", "take"], ["ok"], 1, 0, [(0, 0, 0, 0)])
raises BadKind('rows')
>>> Kind.read("asks put put / answers ok / states 1 first 0 / 0 0 0 0")
raises BadText(2)
>>> Kind.read("asks put / answers ok / states 2 first 0 / 0 0 0 1")
raises BadText(14)
"""

PLAYS = """\
>>> [after(box, 0, 0, 0), after(box, state=0, ask=1, answer=0), answers_to(box, 0, 1), reachable(box)]
[1, None, (1,), (0, 1)]
>>> [played(box, 0, [(0, 0), (1, 0), (1, 1)]), played(box, 1, [(1, 1)]), played(box, 1, ())]
[0, None, 1]
>>> played(box, 0, [(2, 0)])
raises BadNumber('operations')
"""

MAKERS = """\
>>> [purse(3, 1).answers, purse(3, 1).first, purse(3, 1).rows[:5], tickets(2).rows]
[('ok', 'full', 'short', 'n0', 'n1', 'n2', 'n3'), 1, ((0, 0, 0, 1), (0, 1, 0, 2), (0, 2, 2, 0), (0, 3, 2, 0), (0, 4, 3, 0)), ((0, 0, 0, 1), (1, 0, 1, 2), (2, 0, 2, 2))]
>>> [counter(1).rows, chest(1).rows, shelf(2, 1).rows[:3]]
[((0, 0, 0, 1), (0, 1, 0, 1), (0, 2, 1, 0), (1, 0, 0, 0), (1, 1, 0, 0), (1, 2, 2, 1)), ((0, 0, 0, 1), (0, 1, 2, 0), (1, 0, 1, 1), (1, 1, 0, 0)), ((0, 0, 0, 0), (0, 1, 0, 1), (0, 2, 1, 0))]
>>> [line(2, 1).rows, line(2, 2).states, bag(2, 2).states, bag(2, 2).rows[14:18]]
[((0, 0, 0, 1), (0, 1, 2, 0), (1, 0, 0, 2), (1, 1, 3, 0), (2, 0, 1, 2), (2, 1, 3, 1)), 7, 6, ((4, 2, 3, 2), (4, 2, 4, 1), (5, 0, 1, 5), (5, 1, 1, 5))]
>>> line(5, 2)
raises TooMany('states', 60)
>>> purse(8, 9)
raises BadNumber('first')
"""

ALIKE = """\
>>> [can_as(box, 0, 1).operations, can_as(box, 1, 0).operations, can_as(box, 0, 0).pairs]
[((1, 1),), ((1, 0),), ((0, 0), (1, 1))]
>>> four = Kind(["ask"], ["a", "b"], 4, 1, [(0, 0, 1, 0), (1, 0, 0, 2), (1, 0, 1, 3), (2, 0, 0, 2), (3, 0, 0, 3)])
>>> [reachable(four), way_to(four, 3), way_to(four, 0), alike_classes(four), reduced(four).rows]
[(1, 2, 3), ((0, 1),), None, ((1,), (2, 3)), ((0, 0, 0, 1), (0, 0, 1, 1), (1, 0, 0, 1))]
>>> [can_as(four, 2, 1).pairs, can_as(four, one=1, other=2).parts, can_as(four, 2, 3).pairs]
[((2, 1), (2, 2)), (((0, 1),),), ((2, 3),)]
>>> [reduced(line(2, 1)) == reduced(pile(2, 1)), reduced(line(2, 2)).states, reduced(bag(2, 2)) == bag(2, 2)]
[True, 7, True]
"""

CHECK_ALIKE = """\
>>> [shows_alike(four, 2, 1, Alike([(2, 1), (2, 2), (3, 3)])), shows_alike(four, 2, 1, Alike([(2, 1)])), shows_alike(four, 1, 2, Parts([(0, 0), (0, 1)])), shows_alike(four, 1, 2, Parts([[0, 1]]))]
[True, False, False, True]
>>> shows_alike(four, 1, 4, None)
raises BadNumber('other')
"""

HISTORIES = """\
>>> bank = Kind(["take", "put"], ["done", "short"], 3, 2, [(0, 0, 1, 0), (0, 1, 0, 1), (1, 0, 0, 0), (1, 1, 0, 2), (2, 0, 0, 1), (2, 1, 1, 2)])
>>> taken = [("ask", 0, 0), ("answer", 0, 0), ("ask", 1, 0), ("answer", 1, 0), ("ask", 2, 0), ("answer", 2, 1)]
>>> ends = [("ready", 2), ("yes", 2), ("ready", 0), ("yes", 0)]
>>> all_done, one_off = History(bank, taken + [("ready", 1)] + ends + [("yes", 1)]), History(bank, taken + [("no", 1)] + ends)
>>> [all_done.ended, seen_of(all_done), operations(all_done, 2), one_off.deals, one_off.ended, one_off.opened]
[(0, 1, 2), ((2, 0),), ((0, 1),), (0, 1, 2), (0, 2), ()]
>>> later = History(bank, [("ready", 5), ("yes", 5), ("ask", 3, 1), ("answer", 3, 1), ("ask", 4, 0), ("ready", 3)])
>>> [later.opened, later.readied, waiting(later, 4), waiting(later, 3), operations(later, 4), operations(later, 11)]
[(3, 4), (3,), 0, None, (), ()]
>>> History(bank, [("ask", 0, 0), ("ask", 0, 1)])
raises BadEvents(1)
>>> History(bank, [("ask", 0, 0), ("answer", 0, 0), ("yes", 0)])
raises BadEvents(2)
"""

ORDERS = """\
>>> [left_by(all_done, [0, 1, 2]), left_by(all_done, (2, 1, 0)), fits(all_done, (1, 0, 2)), order_for(all_done).order, order_for(one_off) == Bars([[0, 2], [2]])]
[0, None, True, (0, 1, 2), True]
>>> [holds_seen(all_done, [0, 1, 2]), holds_seen(all_done, [2, 1, 0]), order_for(later).order, order_for(History(bank, [])).order]
[False, True, (5,), ()]
>>> fits(all_done, [0, 1])
raises BadOrder('order')
"""

WEAVES = """\
>>> gate = Kind(["draw"], ["n0", "n1", "none"], 3, 0, [(0, 0, 0, 1), (1, 0, 1, 2), (2, 0, 2, 2)])
>>> purse_of_one = Kind(["take"], ["done", "short"], 2, 1, [(0, 0, 1, 0), (1, 0, 0, 0)])
>>> bob = [("ask", 0, 1, 0), ("answer", 0, 1, 1), ("ask", 1, 1, 0), ("answer", 1, 1, 0), ("ready", 0, 1), ("ready", 1, 1), ("yes", 1, 1)]
>>> ann = [("ask", 1, 0, 0), ("answer", 1, 0, 1), ("ready", 1, 0), ("ready", 0, 0), ("yes", 0, 0), ("yes", 1, 0)]
>>> both = Weave([purse_of_one, gate], [("ask", 0, 0, 0), ("answer", 0, 0, 0)] + bob + ann)
>>> [both.ended, at(both, 0).events[-3:], seen_of(at(both, 1)), seen_of(at(both, 0)), last_order(both)]
[(0, 1), (('ready', 0), ('yes', 0), ('yes', 1)), ((1, 0),), (), (1, 0)]
>>> [order_for(at(both, 0)).order, order_for(at(both, 1)).order, order_of_all(both).beginnings, fits_all(both, [1, 0])]
[(0, 1), (1, 0), (((0,), 1), ((1,), 0)), False]
>>> Weave([purse_of_one, gate], [("ask", 0, 0, 0), ("ask", 1, 0, 0)])
raises BadEvents(1)
>>> Weave([purse_of_one, gate], [("ask", 0, 0, 0), ("answer", 0, 0, 0), ("ready", 1, 0), ("yes", 1, 0)])
raises BadEvents(3)
"""

CHECK_ORDERS = """\
>>> [shows_order(all_done, Fits([1, 0, 2])), shows_order(all_done, Bars([])), shows_order(one_off, Bars([[2], [0, 2]])), shows_order(one_off, Bars([[0, 2], (2,)]))]
[True, False, False, True]
>>> [shows_order_of_all(both, Bars([[[0], 1], [[1], 0]])), shows_order_of_all(both, Bars([[[0], 0], [[1], 0]])), shows_order_of_all(both, Fits([0, 1]))]
[True, False, False]
"""

OWN = """\
>>> coins = Kind(["put", "take"], ["ok", "none"], 3, 1, [(0, 0, 0, 1), (0, 1, 1, 0), (1, 0, 0, 2), (1, 1, 0, 0), (2, 0, 1, 2), (2, 1, 0, 1)])
>>> two = [("ask", 0, 1), ("answer", 0, 0), ("ask", 1, 1), ("answer", 1, 1)]
>>> blind = History(coins, two + [("ready", 0), ("ready", 1), ("yes", 0), ("yes", 1)])
>>> wise = History(coins, two + [("ready", 0), ("yes", 0), ("ready", 1), ("yes", 1)])
>>> [closed_lots(blind), keeps(blind) == Breaks([1, 0]), closed_lots(wise), keeps(wise).rooms]
[((), (0,), (1,), (0, 1)), True, ((), (0,), (0, 1)), (((), (1,)), ((0,), (0,)), ((0, 1), (0,)))]
>>> gives = History(coins, [("ask", 0, 0), ("answer", 0, 0), ("ask", 2, 1), ("answer", 2, 0), ("ready", 2), ("ready", 0), ("yes", 2), ("yes", 0)])
>>> keeps(gives).rooms
(((), (1,)), ((0,), (2,)), ((2,), (0,)), ((0, 2), (1,)))
"""

CHECK_OWN = """\
>>> [shows_keeps(wise, Keeps([[[], [1]], [[0], [0]], [[0, 1], [0]]])), shows_keeps(blind, Breaks([0, 1])), shows_keeps(blind, Breaks([1, 0])), shows_keeps(wise, Breaks([1, 0]))]
[True, False, True, False]
>>> [shows_keeps(gives, Keeps(rooms)) for rooms in ([[[], [1]], [[0], [2]], [[2], [0]], [[0, 2], [0, 1, 2]]], [[[], [1, 2]], [[0], [2]], [[2], [0]], [[0, 2], [1]]])]
[True, False]
"""
