"""The examples of the interface, section by section, as they stand; later ones use names of earlier ones."""

CHECKS = """\
>>> [is_integer(True), is_within(3, None, 3), is_lot([0, 2], 3), is_lot([2, 0], 3), is_lot((), 0), is_lot([0, 3], 3)]
[False, True, True, False, True, False]
>>> [is_word("take2"), is_word(""), is_word("Take"), is_word("a b"), is_word("abcdefghijklm"), is_word(7)]
[True, False, False, False, False, False]
"""

PAPERS = """\
>>> note = Paper("note", [1, (2, [3])])
>>> [note.parts, bool(note), bool(Denial("no")), note == Denial("note", [1, (2, [3])]), fixed([[], {"a": [1]}])]
[((1, (2, (3,))),), True, False, False, ((), {'a': [1]})]
"""

KINDS = """\
>>> box = Kind(["put", "take"], ["ok", "short"], 2, 0, [(0, 0, 0, 1), (0, 1, 1, 0), (1, 0, 0, 1), (1, 1, 0, 0)])
>>> [box.asks, box.states, box.rows[1], str(box)]
[('put', 'take'), 2, (0, 1, 1, 0), 'asks put take / answers ok short / states 2 first 0 / 0 0 0 1 / 0 1 1 0 / 1 0 0 1 / 1 1 0 0']
>>> [is_sure(box), operations_of(box), Kind.read(str(box)) == box]
[True, ((0, 0), (1, 0), (1, 1)), True]
>>> Kind(["put", "take"], ["ok"], 1, 0, [(0, 0, 0, 0)])
raises BadKind('rows')
>>> Kind.read("asks put put / answers ok / states 1 first 0 / 0 0 0 0")
raises BadText(2)
>>> Kind.read("asks put / answers ok / states 2 first 0 / 0 0 0 1")
raises BadText(14)
"""

PLAYS = """\
>>> [after(box, 0, 0, 0), after(box, state=0, ask=1, answer=0), answers_to(box, 0, 1), reachable(box)]
[1, None, (1,), (0, 1)]
>>> [played(box, 0, [(0, 0), (1, 0), (1, 1)]), played(box, 1, [(1, 1)]), played(box, 1, ())]
[0, None, 1]
>>> played(box, 0, [(2, 0)])
raises BadNumber('operations')
"""

MAKERS = """\
>>> [purse(3, 1).answers, purse(3, 1).first, purse(3, 1).rows[:5], tickets(2).rows]
[('ok', 'full', 'short', 'n0', 'n1', 'n2', 'n3'), 1, ((0, 0, 0, 1), (0, 1, 0, 2), (0, 2, 2, 0), (0, 3, 2, 0), (0, 4, 3, 0)), ((0, 0, 0, 1), (1, 0, 1, 2), (2, 0, 2, 2))]
>>> [counter(1).rows, chest(1).rows, shelf(2, 1).rows[:3]]
[((0, 0, 0, 1), (0, 1, 0, 1), (0, 2, 1, 0), (1, 0, 0, 0), (1, 1, 0, 0), (1, 2, 2, 1)), ((0, 0, 0, 1), (0, 1, 2, 0), (1, 0, 1, 1), (1, 1, 0, 0)), ((0, 0, 0, 0), (0, 1, 0, 1), (0, 2, 1, 0))]
>>> [line(2, 1).rows, line(2, 2).states, bag(2, 2).states, bag(2, 2).rows[14:18]]
[((0, 0, 0, 1), (0, 1, 2, 0), (1, 0, 0, 2), (1, 1, 3, 0), (2, 0, 1, 2), (2, 1, 3, 1)), 7, 6, ((4, 2, 3, 2), (4, 2, 4, 1), (5, 0, 1, 5), (5, 1, 1, 5))]
>>> line(5, 2)
raises TooMany('states', 60)
>>> purse(8, 9)
raises BadNumber('first')
"""

ALIKE = """\
>>> [can_as(box, 0, 1).operations, can_as(box, 1, 0).operations, can_as(box, 0, 0).pairs]
[((1, 1),), ((1, 0),), ((0, 0), (1, 1))]
>>> four = Kind(["ask"], ["a", "b"], 4, 1, [(0, 0, 1, 0), (1, 0, 0, 2), (1, 0, 1, 3), (2, 0, 0, 2), (3, 0, 0, 3)])
>>> [reachable(four), way_to(four, 3), way_to(four, 0), alike_classes(four), reduced(four).rows]
[(1, 2, 3), ((0, 1),), None, ((1,), (2, 3)), ((0, 0, 0, 1), (0, 0, 1, 1), (1, 0, 0, 1))]
>>> [can_as(four, 2, 1).pairs, can_as(four, one=1, other=2).parts, can_as(four, 2, 3).pairs]
[((2, 1), (2, 2)), (((0, 1),),), ((2, 3),)]
>>> [reduced(line(2, 1)) == reduced(pile(2, 1)), reduced(line(2, 2)).states, reduced(bag(2, 2)) == bag(2, 2)]
[True, 7, True]
"""

CHECK_ALIKE = """\
>>> [shows_alike(four, 2, 1, Alike([(2, 1), (2, 2), (3, 3)])), shows_alike(four, 2, 1, Alike([(2, 1)])), shows_alike(four, 1, 2, Parts([(0, 0), (0, 1)])), shows_alike(four, 1, 2, Parts([[0, 1]]))]
[True, False, False, True]
>>> shows_alike(four, 1, 4, None)
raises BadNumber('other')
"""

HISTORIES = """\
>>> bank = Kind(["take", "put"], ["done", "short"], 3, 2, [(0, 0, 1, 0), (0, 1, 0, 1), (1, 0, 0, 0), (1, 1, 0, 2), (2, 0, 0, 1), (2, 1, 1, 2)])
>>> taken = [("ask", 0, 0), ("answer", 0, 0), ("ask", 1, 0), ("answer", 1, 0), ("ask", 2, 0), ("answer", 2, 1)]
>>> ends = [("ready", 2), ("yes", 2), ("ready", 0), ("yes", 0)]
>>> all_done, one_off = History(bank, taken + [("ready", 1)] + ends + [("yes", 1)]), History(bank, taken + [("no", 1)] + ends)
>>> [all_done.ended, seen_of(all_done), operations(all_done, 2), one_off.deals, one_off.ended, one_off.opened]
[(0, 1, 2), ((2, 0),), ((0, 1),), (0, 1, 2), (0, 2), ()]
>>> later = History(bank, [("ready", 5), ("yes", 5), ("ask", 3, 1), ("answer", 3, 1), ("ask", 4, 0), ("ready", 3)])
>>> [later.opened, later.readied, waiting(later, 4), waiting(later, 3), operations(later, 4), operations(later, 11)]
[(3, 4), (3,), 0, None, (), ()]
>>> History(bank, [("ask", 0, 0), ("ask", 0, 1)])
raises BadEvents(1)
>>> History(bank, [("ask", 0, 0), ("answer", 0, 0), ("yes", 0)])
raises BadEvents(2)
"""

ORDERS = """\
>>> [left_by(all_done, [0, 1, 2]), left_by(all_done, (2, 1, 0)), fits(all_done, (1, 0, 2)), order_for(all_done).order, order_for(one_off) == Bars([[0, 2], [2]])]
[0, None, True, (0, 1, 2), True]
>>> [holds_seen(all_done, [0, 1, 2]), holds_seen(all_done, [2, 1, 0]), order_for(later).order, order_for(History(bank, [])).order]
[False, True, (5,), ()]
>>> fits(all_done, [0, 1])
raises BadOrder('order')
"""

WEAVES = """\
>>> gate = Kind(["draw"], ["n0", "n1", "none"], 3, 0, [(0, 0, 0, 1), (1, 0, 1, 2), (2, 0, 2, 2)])
>>> purse_of_one = Kind(["take"], ["done", "short"], 2, 1, [(0, 0, 1, 0), (1, 0, 0, 0)])
>>> bob = [("ask", 0, 1, 0), ("answer", 0, 1, 1), ("ask", 1, 1, 0), ("answer", 1, 1, 0), ("ready", 0, 1), ("ready", 1, 1), ("yes", 1, 1)]
>>> ann = [("ask", 1, 0, 0), ("answer", 1, 0, 1), ("ready", 1, 0), ("ready", 0, 0), ("yes", 0, 0), ("yes", 1, 0)]
>>> both = Weave([purse_of_one, gate], [("ask", 0, 0, 0), ("answer", 0, 0, 0)] + bob + ann)
>>> [both.ended, at(both, 0).events[-3:], seen_of(at(both, 1)), seen_of(at(both, 0)), last_order(both)]
[(0, 1), (('ready', 0), ('yes', 0), ('yes', 1)), ((1, 0),), (), (1, 0)]
>>> [order_for(at(both, 0)).order, order_for(at(both, 1)).order, order_of_all(both).beginnings, fits_all(both, [1, 0])]
[(0, 1), (1, 0), (((0,), 1), ((1,), 0)), False]
>>> Weave([purse_of_one, gate], [("ask", 0, 0, 0), ("ask", 1, 0, 0)])
raises BadEvents(1)
>>> Weave([purse_of_one, gate], [("ask", 0, 0, 0), ("answer", 0, 0, 0), ("ready", 1, 0), ("yes", 1, 0)])
raises BadEvents(3)
"""

CHECK_ORDERS = """\
>>> [shows_order(all_done, Fits([1, 0, 2])), shows_order(all_done, Bars([])), shows_order(one_off, Bars([[2], [0, 2]])), shows_order(one_off, Bars([[0, 2], (2,)]))]
[True, False, False, True]
>>> [shows_order_of_all(both, Bars([[[0], 1], [[1], 0]])), shows_order_of_all(both, Bars([[[0], 0], [[1], 0]])), shows_order_of_all(both, Fits([0, 1]))]
[True, False, False]
"""

OWN = """\
>>> coins = Kind(["put", "take"], ["ok", "none"], 3, 1, [(0, 0, 0, 1), (0, 1, 1, 0), (1, 0, 0, 2), (1, 1, 0, 0), (2, 0, 1, 2), (2, 1, 0, 1)])
>>> two = [("ask", 0, 1), ("answer", 0, 0), ("ask", 1, 1), ("answer", 1, 1)]
>>> blind = History(coins, two + [("ready", 0), ("ready", 1), ("yes", 0), ("yes", 1)])
>>> wise = History(coins, two + [("ready", 0), ("yes", 0), ("ready", 1), ("yes", 1)])
>>> [closed_lots(blind), keeps(blind) == Breaks([1, 0]), closed_lots(wise), keeps(wise).rooms]
[((), (0,), (1,), (0, 1)), True, ((), (0,), (0, 1)), (((), (1,)), ((0,), (0,)), ((0, 1), (0,)))]
>>> gives = History(coins, [("ask", 0, 0), ("answer", 0, 0), ("ask", 2, 1), ("answer", 2, 0), ("ready", 2), ("ready", 0), ("yes", 2), ("yes", 0)])
>>> keeps(gives).rooms
(((), (1,)), ((0,), (2,)), ((2,), (0,)), ((0, 2), (1,)))
"""

CHECK_OWN = """\
>>> [shows_keeps(wise, Keeps([[[], [1]], [[0], [0]], [[0, 1], [0]]])), shows_keeps(blind, Breaks([0, 1])), shows_keeps(blind, Breaks([1, 0])), shows_keeps(wise, Breaks([1, 0]))]
[True, False, True, False]
>>> [shows_keeps(gives, Keeps(rooms)) for rooms in ([[[], [1]], [[0], [2]], [[2], [0]], [[0, 2], [0, 1, 2]]], [[[], [1, 2]], [[0], [2]], [[2], [0]], [[0, 2], [1]]])]
[True, False]
"""

JOINS = """\
>>> ann = [("ask", 0, 0, 0), ("answer", 0, 0, 0), ("ask", 1, 0, 0), ("answer", 1, 0, 0), ("ready", 0, 0), ("ready", 1, 0), ("yes", 0, 0), ("yes", 1, 0)]
>>> calm = Weave([purse_of_one, gate], ann + [("ask", 0, 1, 0), ("answer", 0, 1, 1), ("ask", 1, 1, 0), ("answer", 1, 1, 1), ("ready", 0, 1), ("ready", 1, 1), ("yes", 1, 1)])
>>> [joined(calm) == Fits([0, 1]), joined(both) == Lax(0, [1, 0])]
[True, True]
>>> [shows_joined(calm, value) for value in (Fits([0, 1]), Fits([1, 0]), Lax(0, [0, 1]))]
[True, False, False]
"""

BESIDES = """\
>>> put, take, short = (0, 0), (1, 0), (1, 1)
>>> [goes_beside(box, take, take).parts, goes_beside(box, one=take, other=put).parts, goes_beside(box, short, put).before]
[(((0, 0),), (1, 0), (1, 0), ()), (((0, 0),), (0, 0), (1, 0), ((1, 0),)), ()]
>>> beside_table(box) == ((put, take), (put, short), (take, put), (take, take), (short, put))
True
>>> goes_beside(box, (2, 0), put)
raises BadNumber('one')
"""

CHECK_BESIDES = """\
>>> [shows_beside(box, put, take, Jars([put], take, put, [short])), shows_beside(box, put, take, Jars([put], put, take, [short])), shows_beside(box, short, short, Goes((0, 1), [(0, 0), (1, 1)]))]
[True, False, True]
"""

DISKS = """\
>>> disk = Disk(5)
>>> [disk.write(2, [7, 8]), disk.write(3, (9,)), disk.write(2, [4])]
[None, None, None]
>>> [disk.waiting(), disk.look(2), disk.look(at=3), disk.kept()]
[3, (4,), (9,), ((), (), (), (), ())]
>>> [disk.cut([0], torn=[1]), disk.waiting(), disk.kept()]
[None, 0, ((), (), (7, 8), (), ())]
>>> [disk.fuse(2), disk.write(4, [1])]
[None, None]
>>> disk.flush()
raises Out()
>>> [disk.waiting(), disk.no_fuse(), disk.flush(), disk.kept()[4]]
[1, None, None, (1,)]
>>> disk.cut([0])
raises BadLot('lands')
"""

JOURNALS = """\
>>> disk = Disk(6)
>>> journal = Journal(disk)
>>> [journal.put([5]), journal.put(record=(6, 7)), journal.records(), journal.sure, journal.room]
[None, None, ((5,), (6, 7)), 0, 0]
>>> [meant(disk), journal.force(), meant(disk), journal.sure]
[(1, 0, ()), None, (1, 0, ((5,), (6, 7))), 2]
>>> [journal.sweep(9, records=[[1, 2]]), journal.base, meant(disk), journal.room]
[None, 9, (1, 9, ((1, 2),)), 1]
>>> disk.kept()
((2, 1, 1, 1, 9), (1, 1, 0, 0, 0), (0, 1, 0, 5), (0, 1, 1, 6, 7), (1, 1, 0, 1, 2), ())
>>> journal.sweep(0, [[1], [2], [3]])
raises Full('journal')
>>> disk = Disk(8)
>>> journal = Journal(disk)
>>> [journal.put([1]), journal.force(), journal.put([2]), journal.put([3]), disk.cut([1]), meant(disk)]
[None, None, None, None, None, (1, 0, ((1,),))]
>>> again = Journal(disk)
>>> [again.life, again.put([4]), again.force(), meant(disk), disk.kept()[2:5]]
[2, None, None, (2, 0, ((1,), (4,))), ((0, 1, 0, 1), (0, 2, 1, 4), (0, 1, 2, 3))]
"""

THINGS = """\
>>> SEATS = "number left 0 2 2 / ask take : when yes answer done set left - left 1 : when yes answer none / ask back : when yes answer done set left + left 1 : when yes answer full"
>>> seats = Thing(SEATS)
>>> [seats.fields, seats.asks, seats.first, str(seats) == SEATS, seats.is_state((3,)), seats.is_state([0])]
[('left',), ('take', 'back'), (2,), True, False, True]
>>> [seats.given((2,), 0), seats.given((2,), 1), seats.given((0,), 0), seats.is_so("or = left 0 < 1 left", (1,))]
[(('done', (1,)),), (('full', (2,)),), (('none', (0,)),), False]
>>> jobs = Thing("line jobs 2 2 / ask add 0 1 : when yes answer ok push jobs it : when yes answer full / ask next : when yes answer i front jobs shift jobs : when yes answer empty")
>>> [jobs.asks, jobs.given(((1, 0),), 2), jobs.given(((),), 2), jobs.given(((1, 0),), 0), jobs.is_so("not = front jobs 1", ((),))]
[('add0', 'add1', 'next'), (('i1', ((0,),)),), (('empty', ((),)),), (('full', ((1, 0),)),), False]
>>> sack = Thing("lot kept 2 / ask put 0 1 : when not has kept it answer ok put kept it : when yes answer there / ask get : pick 0 1 has kept one answer i one drop kept one : when = size kept 0 answer empty")
>>> [sack.given(((0, 1),), 2), sack.given(((),), 2), sack.given(((1,),), 1)]
[(('i0', ((1,),)), ('i1', ((0,),))), (('empty', ((),)),), (('there', ((1,),)),)]
>>> Thing("number left 0 2 3 / ask take : when yes answer done")
raises BadText(4)
>>> Thing("ask take : when < it 1 answer done")
raises BadText(5)
>>> Thing("ask take")
raises BadText(2)
"""

TONGUE = """\
>>> seated = made(seats)
>>> [str(seated.kind), seated.states]
['asks take back / answers done full none / states 3 first 0 / 0 0 0 1 / 0 1 1 0 / 1 0 0 2 / 1 1 0 0 / 2 0 2 2 / 2 1 0 1', ((2,), (1,), (0,))]
>>> rising = Thing("number n 0 1 0 / ask up : when yes answer ok set n + n 1")
>>> [made(rising).parts, made(sack).states, made(jobs).kind.answers]
[((('up', 'ok'),), 'up'), (((),), ((0,),), ((1,),), ((0, 1),)), ('empty', 'full', 'i0', 'i1', 'ok')]
>>> [always(seats, "< left 3").states, always(seats, "not = left 0").parts]
[((2,), (1,), (0,)), ((('take', 'done'), ('take', 'done')),)]
>>> gone = Thing("number gone 0 2 0 / ask take : when yes answer done set gone + gone 1 : when yes answer none / ask back : when yes answer done set gone - gone 1 : when yes answer full")
>>> lone = Thing("number left 0 1 1 / ask take : when yes answer done set left - left 1 : when yes answer none / ask back : when yes answer done set left + left 1 : when yes answer full")
>>> [same(seats, gone).pairs, same(seats, lone).parts]
[((0, 0), (1, 1), (2, 2)), ((('take', 'done'), ('take', 'done')), 0)]
>>> [str(told(made(lone).kind)), bool(same(lone, told(made(lone).kind)))]
['number at 0 1 0 / ask take : may = at 0 answer done set at 1 : may = at 1 answer none set at 1 / ask back : may = at 0 answer full set at 0 : may = at 1 answer done set at 0', True]
>>> always(rising, "yes")
raises Impossible(Silent((('up', 'ok'),), 'up'))
"""

CHECK_THINGS = """\
>>> [shows_made(seats, Made(seated.kind, seated.states)), shows_made(rising, Silent([("up", "ok")], "up")), shows_made(seats, Silent([], "take"))]
[True, True, False]
>>> [shows_always(seats, "< left 3", Always([(0,), (2,), (1,)])), shows_always(seats, "< left 3", Always([(2,)])), shows_always(seats, "not = left 0", Sometimes([("back", "full"), ("take", "done"), ("take", "done")]))]
[True, False, True]
>>> [shows_same(seats, gone, Same([(2, 2), (0, 0), (1, 1)])), shows_same(seats, lone, Unlike([("take", "done"), ("take", "none")], 1)), shows_same(seats, gone, Same([(0, 0)]))]
[True, True, False]
"""

UNNOTICED = """\
>>> box = Kind(["put", "take"], ["ok", "short"], 2, 0, [(0, 0, 0, 1), (0, 1, 1, 0), (1, 0, 0, 1), (1, 1, 0, 0)])
>>> put, take, short = (0, 0), (1, 0), (1, 1)
>>> [able_pairs(box, []), able_pairs(box, [put]), able_pairs(box, by=[short, put])]
[((0, 0), (0, 1), (1, 0), (1, 1)), ((0, 0), (0, 1), (1, 0), (1, 1)), ((0, 0), (1, 0), (1, 1))]
>>> [unnoticed(box, put, [put, take]).parts, unnoticed(box, put, [put, short]).parts, unnoticed(box, take, by=[take]).parts]
[((0, 1), ((0, 0), (0, 1), (1, 1))), ((), ((1, 1),)), (((0, 0),), ((1, 0),))]
>>> unnoticed(box, (2, 0), [])
raises BadNumber('operation')
"""

SPREADS = """\
>>> few = Spread(box, 3, [(0, 0, 1, 1), (1, 0, 3, 1), (1, 1, 3, 0)])
>>> [visits_of(few, 1, 0), notes_of(few, ask=1, answer=1), missing(few, 0, 0), missing(few, 1, 1), going(few, 2)]
[3, 0, ((0, 0),), ((0, 0), (1, 0), (1, 1)), ((0, 0),)]
>>> Spread(box, 3, [(0, 0, 1, 2), (1, 0, 3, 1), (1, 1, 3, 0)])
raises BadSpread('rows')
>>> visits_of(few, 0, 1)
raises Misfit('operation')
"""

SPREAD_LOGS = """\
>>> all_three = (0, 1, 2)
>>> one_in = [("do", 0, 0, 0, 0, (2,), (2,), ()), ("ready", 0), ("yes", 0)]
>>> [sight(few, one_in, 1, (0, 1)), sight(few, one_in, 1, (1, 2)), view_of(few, one_in, 1, ()), view_of(few, one_in, 1, [(0, 1)])]
[(), ((0, 1),), 0, 1]
>>> [do_for(few, one_in, 1, 1, all_three), do_for(few, one_in, 1, ask=1, visited=[0, 1])]
[('do', 1, 1, 0, 1, (0, 1, 2), (0,), ((0, 1),)), None]
>>> [fault_of(few, one_in, ("do", 1, 1, 1, 1, all_three, (), ())), fault_of(few, one_in, ("do", 1, 1, 1, 0, (0, 1), (), ()))]
['seen', 'few']
>>> both = one_in + [("do", 1, 0, 0, 0, (0,), (0,), ())]
>>> [fault_of(few, both, ("do", 2, 1, 0, 1, all_three, (0,), [(0, 1)])), fault_of(few, both, ("do", 2, 0, 0, 0, (0,), (0,), ()))]
['barred', 'date']
>>> [fault_of(few, one_in, ("do", 1, 1, 1, 1, all_three, (), [(0, 1)])), first_stray(few, both), history_of(few, both).opened]
['view', None, (1,)]
>>> sight(few, one_in, 0, all_three)
raises BadNumber('deal')
"""

RIGHT = """\
>>> is_right(few).parts
((0, 1), ((0, 0), (1, 1)), ((), (), ((0, 1), (1, 0), (1, 1)), ((0, 0), (1, 1))))
>>> loose = Spread(box, 3, [(0, 0, 2, 1), (1, 0, 2, 2), (1, 1, 2, 0)])
>>> apart = Spread(box, 3, [(0, 0, 1, 1), (1, 0, 2, 2), (1, 1, 3, 0)])
>>> [is_right(loose) == Missed((), put, [short]), is_right(apart).parts]
[True, (((0, 0),), (0, 0), (1, 0), ((1, 0),))]
"""

LEAST_NOTES = """\
>>> [notes_for(box, 3, [1, 2, 3]), unmet_pairs(box, 3, [1, 2, 3]), notes_for(box, 3, [1, 1, 1])]
[(1, 2, 0), (((0, 0), (1, 0)),), (None, None, 0)]
>>> [majority(box, 3).rows, majority(box, sites=1).rows]
[((0, 0, 2, 2), (1, 0, 2, 2), (1, 1, 2, 0)), ((0, 0, 1, 1), (1, 0, 1, 1), (1, 1, 1, 0))]
>>> notes_for(box, 3, [1, 2])
raises BadNumber('visits')
"""

CHECK_RIGHT = """\
>>> [shows_unnoticed(box, put, [take], Unnoticed([0, 1], [[1, 1], [0, 1], (0, 0)])), shows_unnoticed(box, put, [take], Unnoticed([0, 1], [[0, 1]]))]
[True, False]
>>> [shows_right(few, is_right(few)), shows_right(few, is_right(loose)), shows_right(loose, Missed([put, take], put, [short])), shows_right(apart, Unmet([put], put, take, [take]))]
[True, False, True, True]
"""

SPREAD_RUNS = """\
>>> log_of(loose, is_right(loose))[:4]
(('do', 1, 0, 0, 0, (0, 1, 2), (2,), ()), ('ready', 1), ('yes', 1), ('do', 2, 1, 1, 1, (0, 1), (0, 1), ()))
>>> log_of(apart, is_right(apart))[3:5]
(('do', 1, 1, 0, 1, (0, 1), (0, 1), ((0, 1),)), ('do', 2, 0, 0, 2, (2,), (2,), ((0, 1),)))
>>> [record[:3] for record in log_of(apart, is_right(apart))[5:]]
[('ready', 1), ('ready', 2), ('yes', 1), ('yes', 2), ('do', 3, 1), ('ready', 3), ('yes', 3)]
>>> log_of(few, is_right(loose))
raises BadValue('paper')
"""

LOWERED = """\
>>> [lowered(Spread(box, 3, [(0, 0, 3, 3), (1, 0, 3, 3), (1, 1, 3, 3)])).rows, lowered(majority(box, 3)).rows, lowered(few).rows]
[((0, 0, 1, 1), (1, 0, 3, 1), (1, 1, 3, 0)), ((0, 0, 2, 2), (1, 0, 2, 2), (1, 1, 2, 0)), ((0, 0, 1, 1), (1, 0, 3, 1), (1, 1, 3, 0))]
"""

LETTERS = """\
>>> [is_letter((0, 7, "visit", 3, 0, 0, 1)), is_letter([0, 6, "visit", 3, 0, 0, 1]), is_letter((0, 6, "no", 3)), is_letter((0, 7, "leave", 3, 0, 1, [4, 7])), is_letter((0, 7, "leave", 3, 0, 1, [7, 4]))]
[True, False, True, True, False]
>>> [is_letter((7, 0, "shown", 3, 0, 0, 1, 0, [], ())), is_letter((7, 0, "shown", 3, 0, 0, 1, 4, [(2, 0, 1, 0, 4), (1, 0, 1, 0, 4)], [])), is_letter((7, 0, "shown", 3, 0, 0, 1, 4, [], [(1, 1, 0, 0), (1, 0, 0, 0)]))]
[True, False, False]
>>> letter_text((0, 7, "note", 3, 1, 0, 1, 0, 2, 4, 1, [(2, 0, 1, 0, 1), (3, 0, 0, 2, 2)]))
'0 7 note 3 1 0 1 0 2 4 1 / 2 0 1 0 1 / 3 0 0 2 2'
>>> letter_text((7, 0, "shown", 3, 0, 0, 1, 4, [(2, 0, 1, 0, 1)], [(1, 0, 0, 2), (4, 1, 0, 0)]))
'7 0 shown 3 0 0 1 4 / 2 0 1 0 1 | 1 0 0 2 | 4 1 0 0'
>>> [letter_text((0, 7, "leave", 3, 0, 1, (4, 7))), letter_text((6, 7, "end", 3, 1, [(0, 1, 1), (2, 6, 4)]))]
['0 7 leave 3 0 1 4 7', '6 7 end 3 1 / 0 1 1 / 2 6 4']
"""

SITES = """\
>>> site = Site(0, Disk(32))
>>> [site.life, site.up, site.take((0, 7, "visit", 0, 0, 0, 1)), site.lock, site.working]
[1, True, ((7, 0, 'shown', 0, 0, 0, 1, 0, (), ()),), (0, 0, 0), (0,)]
>>> [site.take((0, 8, "visit", 1, 0, 0, 1)), site.take((0, 7, "note", 0, 0, 0, 1, 0, 0, 1, 1, [])), site.lock, site.marks, site.date]
[(), ((7, 0, 'noted', 0, 0, 1),), None, ((0, 0, 0, 0),), 1]
>>> [site.take((0, 8, "visit", 1, 0, 0, 1)), site.take((0, 8, "leave", 1, 0, 0, [])), site.working, site.take((0, 8, "visit", 1, 0, 0, 1))]
[((8, 0, 'shown', 1, 0, 0, 1, 1, (), ((0, 0, 0, 0),)),), (), (0,), ()]
>>> [site.take([0, 8, "visit", 1, 0, 1, 1]), site.take((0, 8, "leave", 1, 0, 1, [0])), site.working, site.lying, site.news()]
[((8, 0, 'shown', 1, 0, 1, 1, 1, (), ((0, 0, 0, 0),)),), ((7, 0, 'gone', 0, 1),), (), (), (('mark', 0, 0), ('no', 0))]
>>> [site.take((0, 9, "visit", 2, 0, 0, 1)), site.take((0, 9, "note", 2, 0, 0, 1, 1, 0, 2, 1, ())), site.take((0, 6, "hold", 2, 1, 1)), site.holding]
[((9, 0, 'shown', 2, 0, 0, 1, 1, (), ()),), ((9, 0, 'noted', 2, 0, 1),), ((6, 0, 'held', 2),), (2,)]
>>> [site.cut([]), site.lying, site.rise(), site.life, site.lying, site.date, site.take((0, 10, "visit", 3, 0, 0, 2))]
[None, (), True, 2, ((2, 0, 1, 0, 2),), 2, ((10, 0, 'shown', 3, 0, 0, 2, 2, (), ((2, 1, 0, 0),)),)]
>>> [site.take((0, 6, "yes", 2)), site.take((0, 10, "leave", 3, 0, 0, ())), site.take((0, 10, "visit", 3, 0, 1, 2)), site.again()]
[((6, 0, 'done', 2),), (), ((10, 0, 'shown', 3, 0, 1, 2, 2, ((2, 0, 1, 0, 2),), ()),), ((10, 0, 'still', 3, 0, 1, 2),)]
>>> [site.take((0, 10, "note", 3, 0, 1, 2, 0, 1, 3, 0, ())), site.lying, site.marks, site.date, site.take((0, 6, "hold", 3, 1, 2)), lies_on(site.disk)]
[((10, 0, 'noted', 3, 0, 2),), ((2, 0, 1, 0, 2),), ((3, 0, 0, 1),), 3, ((6, 0, 'held', 3),), (((2, 0, 1, 0, 2),), (3,), (2,))]
"""

TELLERS = """\
>>> teller = Teller(Disk(16))
>>> [teller.take((6, 7, "end", 0, 1, [(0, 1, 1), (2, 3, 4)])), teller.take((6, 0, "held", 0)), teller.again(), teller.asking]
[((0, 6, 'hold', 0, 1, 1), (2, 6, 'hold', 0, 3, 4)), (), ((2, 6, 'hold', 0, 3, 4),), (0,)]
>>> [teller.take((6, 0, "what", 0)), teller.take((6, 2, "held", 0)), yeses_of(teller.disk)]
[(), ((0, 6, 'yes', 0), (2, 6, 'yes', 0), (7, 6, 'told', 0, 1, 1)), ((0, (0, 2)),)]
>>> [teller.take((6, 8, "end", 1, 1, ((0, 1, 1),))), teller.take((6, 0, "barred", 1)), teller.take((6, 0, "done", 0)), teller.again()]
[((0, 6, 'hold', 1, 1, 1),), ((0, 6, 'no', 1), (8, 6, 'told', 1, 0, 1)), (), ((2, 6, 'yes', 0),)]
>>> [teller.cut([]), teller.take((6, 2, "what", 0)), teller.rise(), teller.take((6, 2, "what", 0)), teller.take((6, 7, "end", 3, 1, [])), teller.take((6, 7, "end", 3, 2, []))]
[None, (), True, ((2, 6, 'yes', 0),), ((7, 6, 'told', 3, 0, 2),), ((7, 6, 'told', 3, 0, 2),)]
"""

PROGRAMS = """\
>>> coins = Program([(few, [0, 1, 2])], [[[(0, 0)]], [[(0, 1)]]], [(1, 0)])
>>> [coins.deals, coins.owners, coins.pairs, coins == Program([(few, (0, 1, 2))], coins.hands)]
[(((0, 0),), ((0, 1),)), (0, 1), ((1, 0),), False]
>>> Program([(few, [0, 1])], [[]])
raises BadProgram('things')
>>> Program([(few, [0, 1, 2])], [[[(0, 2)]]])
raises BadProgram('hands')
"""

PATIENCE = """\
>>> [goes_one_way([(0, 1), (2, 0)]).parts, goes_one_way([(3, 1), (1, 3), (0, 1)]).parts, goes_one_way([]).parts]
[((2, 0, 1),), ((1, 3),), ((),)]
>>> [goes_one_way([(0, 1), (1, 2), (2, 0), (2, 3)]).parts, bool(goes_one_way([(4, 5), (5, 4)]))]
[((0, 1, 2),), False]
>>> [depths([(0, 1), (1, 2), (0, 2), (5, 2)]), by_number(3, True), by_number(3, False)]
[((0, 2), (1, 1), (2, 0), (5, 1)), ((0, 1), (0, 2), (1, 2)), ((1, 0), (2, 0), (2, 1))]
>>> goes_one_way([(2, 2)])
raises BadPairs('pairs')
>>> eased([(0, 1), (1, 0), (1, 2)]).out in (((0, 1),), ((1, 0),))
True
>>> len(eased([(0, 1), (1, 2), (2, 0), (0, 2)]).out)
1
"""

SCRIPTS = """\
>>> told = [("visit", 0, 2), ["bring", 0], ("cut", 1, 5), ("quit", 2)]
>>> [is_script(told), is_script([("send",)]), is_script([("cut", 7, 0)]), is_script([("send", True)]), is_script(())]
[True, False, False, False, True]
>>> [script_text(told), read_script("rise 6 / drop 0 7"), read_script("")]
['visit 0 2 / bring 0 / cut 1 5 / quit 2', (('rise', 6), ('drop', 0, 7)), ()]
>>> read_script("send 0 / bring")
raises BadText(4)
>>> read_script("send 0 / cut 1 5 5")
raises BadText(6)
"""

WORLDS = """\
>>> put_in = [("visit", 0, 2), ("bring", 0), ("bring", 0), ("decide", 0, 1), ("bring", 0), ("bring", 0)]
>>> ask = [("visit", 1, 0), ("bring", 0), ("bring", 0), ("visit", 1, 1), ("bring", 0), ("bring", 0), ("visit", 1, 2), ("bring", 0), ("bring", 0), ("decide", 1, 7)]
>>> small = World(coins)
>>> [small.run(put_in[:4]), small.letters()]
[4, ((2, 7, 'note', 0, 0, 0, 1, 0, 0, 1, 1, ()),)]
>>> [small.run(put_in[4:]), small.letters(), small.heard()]
[2, (), (((0,), None), ((), None))]
>>> [small.run(ask), small.letters()[2], small.waits()]
[10, (2, 8, 'leave', 1, 0, 0, ()), ((1, 0),)]
>>> [small.calm(), small.heard(), small.order(), small.log(0)[:3]]
[2, (((0,), 1), ((0,), 1)), (0, 1), (('do', 0, 0, 0, 1, (2,), (2,), ()), ('ready', 0), ('yes', 0))]
>>> [small.log(0)[3], bool(joined(small.settled())), small.settled() == small.weave()]
[('do', 1, 1, 0, 2, (0, 1, 2), (0, 1, 2), ((0, 1),)), True, True]
>>> rash = World(Program(coins.things, coins.hands))
>>> [rash.run(put_in), rash.run(ask), rash.letters()[2]]
[6, 10, (2, 8, 'leave', 1, 0, 0, (0,))]
>>> [rash.calm(), rash.heard(), rash.order()]
[2, (((0,), 0), ((1,), 1)), (1,)]
>>> fallen = World(coins)
>>> [fallen.run(put_in), fallen.step(("cut", 2, 0)), fallen.step(("send", 0)), fallen.out(), fallen.letters()]
[6, True, True, (2,), ((6, 7, 'end', 0, 1, ((2, 1, 1),)),)]
>>> [fallen.calm(), fallen.heard(), fallen.lives()]
[3, (((0,), 0), ((1,), 1)), (1, 1, 2, 1)]
"""

STORIES = """\
>>> [story(small)[:2], story(small)[-1]]
[('deal 0 asks thing 0: put', 'thing 0 answers deal 0: ok'), 'yes for deal 1 at thing 0']
"""

TEARS = """\
>>> rent = torn(loose)
>>> [rent.program.hands, len(rent.script), rent.script[9:12], rent.script[16:20]]
[((((0, 0), (1, 0)), ((0, 1), (1, 0))),), 73, (('decide', 0, 4), ('bring', 0), ('bring', 0)), (('visit', 0, 3), ('bring', 0), ('bring', 0), ('decide', 0, 1))]
>>> world = played_world(rent.program, script=rent.script)
>>> [world.heard(), world.order(), order_of_all(world.settled()).beginnings, world.letters()]
[(((0, 0), 1), ((1, 1), 1)), (0, 1), (((0, 1), 0), ((1,), 1)), ()]
>>> world.log(0)[3]
('do', 1, 1, 1, 2, (0, 1), (0, 1), ())
>>> rent = torn(apart)
>>> [rent.program.hands, len(rent.script), rent.script[41:44]]
[((((0, 0), (1, 0)), ((0, 1), (1, 0)), ((0, 1), (1, 0))), (((0, 0), (1, 0)),)), 137, (('visit', 0, 0), ('bring', 0), ('bring', 0))]
>>> world = played_world(rent.program, rent.script)
>>> [world.heard(), world.order(), bool(order_of_all(world.settled()))]
[(((0, 0), 1), ((0, 2), 1), ((0, 3), 1), ((0, 1), 1)), (0, 3, 1, 2), False]
>>> torn(few)
raises Impossible
>>> [len(tight(few).rows), tight(few).rows[0][:3], tight(few).rows[0][3] == Missed((), put, [short]), tight(few).rows[2][:3]]
[4, (0, 0, 1), True, (1, 0, 1)]
>>> [bool(tight(majority(box, 3))), tight(Spread(box, 3, [(0, 0, 1, 1), (1, 0, 3, 2), (1, 1, 3, 0)])) == Slack(1, 0, 1)]
[True, True]
"""

CHECK_TEARS = """\
>>> [shows_torn(loose, torn(loose)), shows_torn(apart, torn(loose)), shows_torn(few, Torn(rent.program, rent.script))]
[True, False, False]
>>> [shows_tight(few, tight(few)), shows_tight(few, tight(majority(box, 3))), shows_tight(loose, Slack(0, 0, 1))]
[True, False, False]
"""

CHECK_PATIENCE = """\
>>> [shows_one_way([(0, 1), (2, 1)], OneWay([2, 0, 1])), shows_one_way([(0, 1), (2, 1)], OneWay((1, 0, 2))), shows_one_way([(0, 1), (1, 0)], Round([1, 0]))]
[True, False, True]
>>> [shows_eased([(0, 1), (1, 0)], Eased((0, 1), [(1, 0)], (0, 0, 0, 1))), shows_eased([(0, 1), (1, 0)], Eased((0, 1), [(1, 0)], (0, 0, 0, 0)))]
[True, False]
"""

RINGS = """\
>>> caught = played_ring([(4, 2), (2, 4)])
>>> [caught.program.hands, caught.waits(), goes_one_way(caught.waits()).parts]
[((((0, 0), (0, 1)),), (((0, 1), (0, 0)),)), ((0, 1), (1, 0)), ((0, 1),)]
>>> [caught.heard(), caught.order(), caught.calm() > 0, caught.heard(), caught.waits()]
[(((0,), None), ((0,), None)), (), True, (((0,), None), ((0,), None)), ((0, 1), (1, 0))]
>>> [ring_of([(0, 1), (1, 0)])[1][:6], len(ring_of([(0, 1), (1, 0)])[1])]
[(('visit', 0, 0), ('bring', 0), ('bring', 0), ('decide', 0, 1), ('bring', 0), ('bring', 0)), 22]
"""
