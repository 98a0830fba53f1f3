"""The examples of the interface, section by section, as they stand; later ones use names of earlier ones."""

CHECKS = """\
>>> [is_integer(True), is_within(3, None, 3), is_lot([0, 2], 3), is_lot([2, 0], 3), is_lot((), 0), is_lot([0, 3], 3)]
[False, True, True, False, True, False]
>>> [is_word("take2"), is_word(""), is_word("Take"), is_word("a b"), is_word("abcdefghijklm"), is_word(7)]
[True, False, False, False, False, False]
"""

PAPERS = """\
>>> note = Paper("note", [1, (2, [3])])
>>> [note.parts, bool(note), bool(Denial("no")), note == Denial("note", [1, (2, [3])]), fixed([[], {"a": [1]}])]
[((1, (2, (3,))),), True, False, False, ((), {'a': [1]})]
"""

KINDS = """\
>>> box = Kind(["put", "take"], ["ok", "short"], 2, 0, [(0, 0, 0, 1), (0, 1, 1, 0), (1, 0, 0, 1), (1, 1, 0, 0)])
>>> [box.asks, box.states, box.rows[1], str(box)]
[('put', 'take'), 2, (0, 1, 1, 0), 'asks put take / answers ok short / states 2 first 0 / 0 0 0 1 / 0 1 1 0 / 1 0 0 1 / 1 1 0 0']
>>> [is_sure(box), operations_of(box), Kind.read(str(box)) == box]
[True, ((0, 0), (1, 0), (1, 1)), True]
>>> Kind(["put", "take"], ["ok"], 1, 0, [(0, 0, 0, 0)])
raises BadKind('rows')
>>> Kind.read("asks put put / answers ok / states 1 first 0 / 0 0 0 0")
raises BadText(2)
>>> Kind.read("asks put / answers ok / states 2 first 0 / 0 0 0 1")
raises BadText(14)
"""

PLAYS = """\
>>> [after(box, 0, 0, 0), after(box, state=0, ask=1, answer=0), answers_to(box, 0, 1), reachable(box)]
[1, None, (1,), (0, 1)]
>>> [played(box, 0, [(0, 0), (1, 0), (1, 1)]), played(box, 1, [(1, 1)]), played(box, 1, ())]
[0, None, 1]
>>> played(box, 0, [(2, 0)])
raises BadNumber('operations')
"""

MAKERS = """\
>>> [purse(3, 1).answers, purse(3, 1).first, purse(3, 1).rows[:5], tickets(2).rows]
[('ok', 'full', 'short', 'n0', 'n1', 'n2', 'n3'), 1, ((0, 0, 0, 1), (0, 1, 0, 2), (0, 2, 2, 0), (0, 3, 2, 0), (0, 4, 3, 0)), ((0, 0, 0, 1), (1, 0, 1, 2), (2, 0, 2, 2))]
>>> [counter(1).rows, chest(1).rows, shelf(2, 1).rows[:3]]
[((0, 0, 0, 1), (0, 1, 0, 1), (0, 2, 1, 0), (1, 0, 0, 0), (1, 1, 0, 0), (1, 2, 2, 1)), ((0, 0, 0, 1), (0, 1, 2, 0), (1, 0, 1, 1), (1, 1, 0, 0)), ((0, 0, 0, 0), (0, 1, 0, 1), (0, 2, 1, 0))]
>>> [line(2, 1).rows, line(2, 2).states, bag(2, 2).states, bag(2, 2).rows[14:18]]
[((0, 0, 0, 1), (0, 1, 2, 0), (1, 0, 0, 2), (1, 1, 3, 0), (2, 0, 1, 2), (2, 1, 3, 1)), 7, 6, ((4, 2, 3, 2), (4, 2, 4, 1), (5, 0, 1, 5), (5, 1, 1, 5))]
>>> line(5, 2)
raises TooMany('states', 60)
>>> purse(8, 9)
raises BadNumber('first')
"""

ALIKE = """\
>>> [can_as(box, 0, 1).operations, can_as(box, 1, 0).operations, can_as(box, 0, 0).pairs]
[((1, 1),), ((1, 0),), ((0, 0), (1, 1))]
>>> four = Kind(["ask"], ["a", "b"], 4, 1, [(0, 0, 1, 0), (1, 0, 0, 2), (1, 0, 1, 3), (2, 0, 0, 2), (3, 0, 0, 3)])
>>> [reachable(four), way_to(four, 3), way_to(four, 0), alike_classes(four), reduced(four).rows]
[(1, 2, 3), ((0, 1),), None, ((1,), (2, 3)), ((0, 0, 0, 1), (0, 0, 1, 1), (1, 0, 0, 1))]
>>> [can_as(four, 2, 1).pairs, can_as(four, one=1, other=2).parts, can_as(four, 2, 3).pairs]
[((2, 1), (2, 2)), (((0, 1),),), ((2, 3),)]
>>> [reduced(line(2, 1)) == reduced(pile(2, 1)), reduced(line(2, 2)).states, reduced(bag(2, 2)) == bag(2, 2)]
[True, 7, True]
"""
