"""Each function raises the error of its first wrong parameter, by place and by name, whatever stands behind it."""

from fewvisits import (alike, besides, check_alike, check_besides, check_orders, check_own, check_patience, check_right,
                       check_tears, check_things, disks, histories, joins, journals, kinds, least_notes, letters, lowered, makers,
                       orders, own, patience, plays, programs, right, rings, scripts, sites, spread_logs, spread_runs, spreads,
                       stories, tears, tellers, things, tongue, unnoticed, weaves, worlds)
from fewvisits.errors import (BadEvents, BadKind, BadLog, BadLot, BadNumber, BadOrder, BadPairs, BadProgram, BadScript, BadSpread,
                              BadText, BadValue)
from tests.naive import Odd
from tests.refusing import Refusing

BOX = kinds.Kind(["put", "take"], ["ok", "short"], 2, 0, [(0, 0, 0, 1), (0, 1, 1, 0), (1, 0, 0, 1), (1, 1, 0, 0)])
HISTORY = histories.History(BOX, [("ready", 3), ("yes", 3)])
WEAVE = weaves.Weave([BOX], [("ready", 0, 3), ("yes", 0, 3)])
THING = things.Thing("number n 0 2 0 / ask go : when yes answer ok")

NO_NUMBER = [True, False, None, -1, 99, "0", [0], 0.0, Odd()]
NO_LIST = [None, 7, "ab", {}, Odd()]
KIND = ("kind", BOX, BadKind("kind"), [None, BOX.rows, "kind", Odd()])


def value_of(name, right):
    return (name, right, BadValue(name), [None, BOX, "text", Odd()])


def number(name, right, wrong=()):
    return (name, right, BadNumber(name), NO_NUMBER + list(wrong))


def operation(name):
    return (name, [1, 0], BadNumber(name), NO_LIST + [(2, 0), (0, 2), (True, 0), (0, False), (0,), (0, 0, 0), ()])


def operations(name):
    return (name, [(1, 1)], BadNumber(name), NO_LIST + [[(2, 0)], [(0, 0), (0, True)], [0, 0], [None]])


HISTORY_FIRST = value_of("history", HISTORY)
WEAVE_FIRST = value_of("weave", WEAVE)
ORDER = ("order", [3], BadOrder("order"), NO_LIST + [[], [3, 3], [True], [2]])
# A value of any kind, for the functions that tell whether it is a right paper.
ANY = ("value", None, None, [])
EVENTS = ("events", [], BadEvents(0), NO_LIST)

PLAIN = [
    (kinds.Kind, [("asks", ["a"], BadKind("asks"), NO_LIST), ("answers", ["b"], BadKind("answers"), NO_LIST),
                  ("states", 1, BadKind("states"), NO_NUMBER), ("first", 0, BadKind("first"), NO_NUMBER),
                  ("rows", [(0, 0, 0, 0)], BadKind("rows"), NO_LIST)]),
    (kinds.Kind.read, [("text", str(BOX), BadText(0), [None, 7, b"asks", Odd()])]),
    (kinds.is_sure, [KIND]), (kinds.operations_of, [KIND]),
    (plays.after, [KIND, number("state", 0), number("ask", 1), number("answer", 1)]),
    (plays.answers_to, [KIND, number("state", 0), number("ask", 1)]),
    (plays.played, [KIND, number("state", 0), operations("operations")]), (plays.reachable, [KIND]),
    (makers.purse, [number("most", 3), number("first", 1)]), (makers.tickets, [number("many", 2)]),
    (makers.counter, [number("most", 2)]), (makers.chest, [number("items", 2)]),
    (makers.shelf, [number("worths", 2), number("first", 1)])] + [
    (made, [number("room", 2), number("items", 2)]) for made in (makers.line, makers.pile, makers.bag)] + [
    (alike.can_as, [KIND, number("one", 0), number("other", 1)]), (alike.alike_classes, [KIND]),
    (alike.way_to, [KIND, number("state", 1)]), (alike.reduced, [KIND]),
    (check_alike.shows_alike, [KIND, number("one", 0), number("other", 1), ANY]),
    (histories.History, [KIND, EVENTS]),
    (histories.operations, [HISTORY_FIRST, number("deal", 3)]), (histories.waiting, [HISTORY_FIRST, number("deal", 3)]),
    (histories.seen_of, [HISTORY_FIRST]), (orders.holds_seen, [HISTORY_FIRST, ORDER]), (orders.left_by, [HISTORY_FIRST, ORDER]),
    (orders.fits, [HISTORY_FIRST, ORDER]), (orders.order_for, [HISTORY_FIRST]),
    (weaves.Weave, [("kinds", [BOX], BadKind("kinds"), NO_LIST + [[], [None], [BOX] * 5]), EVENTS]),
    (weaves.at, [WEAVE_FIRST, number("thing", 0)]), (weaves.last_order, [WEAVE_FIRST]),
    (weaves.fits_all, [WEAVE_FIRST, ORDER]), (weaves.order_of_all, [WEAVE_FIRST]),
    (check_orders.shows_order, [HISTORY_FIRST, ANY]), (check_orders.shows_order_of_all, [WEAVE_FIRST, ANY]),
    (own.closed_lots, [HISTORY_FIRST]), (own.keeps, [HISTORY_FIRST]), (check_own.shows_keeps, [HISTORY_FIRST, ANY])]

JOINED = [
    (joins.joined, [WEAVE_FIRST]), (joins.shows_joined, [WEAVE_FIRST, ANY]),
    (besides.goes_beside, [KIND, operation("one"), operation("other")]), (besides.beside_table, [KIND]),
    (check_besides.shows_beside, [KIND, operation("one"), operation("other"), ANY])]


def filled_disk():
    disk = disks.Disk(4)
    disk.write(0, [1])
    return disk


def new_journal():
    return journals.Journal(disks.Disk(8))


def of_new(make, name):
    """A method of an object that is made anew for each call."""
    return lambda *given, **named: getattr(make(), name)(*given, **named)


BLOCK = ("block", [1], BadNumber("block"), NO_LIST + [[1] * 9, [True], [None]])
RECORD = ("record", [1], BadNumber("record"), NO_LIST + [[1] * 6, [True], [None]])
LOT_WRONG = NO_LIST + [[1], [0, 0], [True], [-1]]
CONDITION = ("condition", "yes", BadText(0), [None, 7, "no", "", Odd()])
STATE = ("state", (0,), BadValue("state"), NO_LIST + [(), (3,), (True,), ((),), (0, 0)])

KEEPING = [
    (disks.Disk, [("many", 4, BadNumber("many"), [True, None, 3, 257, Odd()])]),
    (of_new(filled_disk, "write"), [number("at", 0), BLOCK]),
    (of_new(filled_disk, "cut"), [("lands", [0], BadLot("lands"), LOT_WRONG),
                                  ("torn", [], BadLot("torn"), LOT_WRONG)]),
    (of_new(filled_disk, "fuse"), [("many", 1, BadNumber("many"), [0, True, None, Odd()])]),
    (of_new(filled_disk, "look"), [number("at", 0)]),
    (journals.Journal, [value_of("disk", filled_disk())]),
    (journals.meant, [value_of("disk", filled_disk())]),
    (of_new(new_journal, "put"), [RECORD]),
    (of_new(new_journal, "sweep"), [("base", 0, BadNumber("base"), [True, None, "0", Odd()]),
                                    ("records", [[1]], BadLog("records"), NO_LIST + [[None], [[1] * 6], [1]])]),
    (things.Thing, [("text", str(THING), BadText(0), [None, 7, "no", Odd()])]),
    (things.Thing.read, [("text", str(THING), BadText(0), [None, 7, "no", Odd()])]),
    (THING.given, [STATE, number("ask", 0)]),
    (THING.is_so, [CONDITION, STATE]),
    (tongue.made, [value_of("thing", THING)]),
    (tongue.always, [value_of("thing", THING), CONDITION]),
    (tongue.same, [value_of("one", THING), value_of("other", THING)]),
    (tongue.told, [KIND])]

ROWS = [(0, 0, 1, 1), (1, 0, 2, 1), (1, 1, 2, 0)]
SPREAD = ("spread", spreads.Spread(BOX, 2, ROWS), BadSpread("spread"), [None, BOX, ROWS, Odd()])
ROWS_WRONG = NO_LIST + [[], ROWS[:2], ROWS[::-1], [(0, 0, 1, 2)] + ROWS[1:], [(0, 0, True, 1)] + ROWS[1:]]
DO = ("do", 1, 0, 0, 0, (0,), (0,), ())
LOG = ("log", [DO], BadLog("log"), NO_LIST + [[None], [DO[:7]], [("yes", 1)], [DO, ("ready", 1), DO]])
DEAL = ("deal", 1, BadNumber("deal"), [True, None, -1, 12, "1", Odd()])
VISITED = ("visited", [0], BadLot("visited"), NO_LIST + [[], [2], [0, 0], [True]])
BY = ("by", [(0, 0)], BadNumber("by"), NO_LIST + [[(2, 0)], [(0, True)], [None]])
VISITS = ("visits", [1, 2, 2], BadNumber("visits"), NO_LIST + [[], [1, 2], [1, 2, 3], [True, 1, 1], [0, 1, 1]])
SITES = ("sites", 2, BadNumber("sites"), [True, None, 0, 6, Odd()])

SPREADING = [
    (check_things.shows_made, [value_of("thing", THING), ANY]),
    (check_things.shows_always, [value_of("thing", THING), CONDITION, ANY]),
    (check_things.shows_same, [value_of("one", THING), value_of("other", THING), ANY]),
    (unnoticed.able_pairs, [KIND, BY]), (unnoticed.unnoticed, [KIND, operation("operation"), BY]),
    (spreads.Spread, [KIND, SITES, ("rows", ROWS, BadSpread("rows"), ROWS_WRONG)]),
    (spreads.going, [SPREAD, number("up", 2)]),
    (spread_logs.plain_log, [SPREAD, LOG]), (spread_logs.history_of, [SPREAD, LOG]), (spread_logs.first_stray, [SPREAD, LOG]),
    (spread_logs.sight, [SPREAD, LOG, DEAL, VISITED]),
    (spread_logs.view_of, [SPREAD, LOG, DEAL, ("seen", [], BadLot("seen"), NO_LIST + [[(0, 1)], [None], [(1, 1)]])]),
    (spread_logs.fault_of, [SPREAD, LOG, ("record", DO, BadLog("record"), NO_LIST + [("ready", 1), DO[:7], DO[:7] + (None,)])]),
    (spread_logs.do_for, [SPREAD, LOG, DEAL, number("ask", 0), VISITED]),
    (right.is_right, [SPREAD]), (check_right.shows_right, [SPREAD, ANY]),
    (check_right.shows_unnoticed, [KIND, operation("operation"), BY, ANY]),
    (least_notes.unmet_pairs, [KIND, SITES, VISITS]), (least_notes.notes_for, [KIND, SITES, VISITS]),
    (least_notes.majority, [KIND, SITES])] + [
    (told, [SPREAD, number("ask", 0), number("answer", 0)]) for told in (spreads.visits_of, spreads.notes_of, spreads.missing)]

WRONG = ("spread", spreads.Spread(BOX, 2, [(0, 0, 1, 0), (1, 0, 1, 0), (1, 1, 1, 0)]), BadSpread("spread"), [None, BOX, ROWS, Odd()])
PROGRAM = programs.Program([(spreads.Spread(BOX, 2, ROWS), (0, 1))], [[[(0, 0)]]])
DISK = ("disk", disks.Disk(8), BadValue("disk"), [None, 8, Odd()])
LETTER_WRONG = [None, (), (0, 7, "visit"), [Odd()] * 7, Odd()]
PAIRS = ("pairs", [(0, 1)], BadPairs("pairs"), NO_LIST + [[(0, 0)], [(0, 8)], [(0, True)], [(0, 1), (0, 1)], [Odd()]])
RING = PAIRS[:1] + ([(0, 1), (1, 0)],) + PAIRS[2:]
SCRIPT_WRONG = NO_LIST + [[("send", 8)], [("send", True)], [None], [Odd()]]
SCRIPT = ("script", [("send", 0)], BadScript("script"), SCRIPT_WRONG)
PROGRAM_FIRST = ("program", PROGRAM, BadValue("program"), [None, BOX, (), Odd()])


def new_site():
    return sites.Site(0, disks.Disk(8))


def new_teller():
    return tellers.Teller(disks.Disk(8))


def new_world():
    return worlds.World(PROGRAM)


LANDS = [("lands", [], BadLot("lands"), LOT_WRONG), ("torn", [], BadLot("torn"), LOT_WRONG)]
NODE_DEAL = ("deal", 1, BadNumber("deal"), [True, None, -1, 12, Odd()])
FUSE = ("many", 1, BadNumber("many"), [0, True, None, Odd()])

LASTLY = [
    (spread_runs.log_of, [WRONG, ("paper", right.is_right(WRONG[1]), BadValue("paper"), [None, BOX, right.is_right(SPREAD[1]), Odd()])]),
    (lowered.lowered, [("spread", least_notes.majority(BOX, 2), BadSpread("spread"), [None, BOX, ROWS, Odd()])]),
    (letters.letter_text, [("letter", (0, 7, "no", 1), BadValue("letter"), LETTER_WRONG)]),
    (sites.Site, [("number", 5, BadNumber("number"), [True, None, -1, 6, Odd()]), DISK]), (sites.lies_on, [DISK]),
    (of_new(new_site, "take"), [("letter", (0, 7, "no", 1), BadValue("letter"), LETTER_WRONG + [(1, 7, "no", 1)])]),
    (of_new(new_site, "drop"), [NODE_DEAL]), (of_new(new_site, "cut"), LANDS), (of_new(new_site, "fuse"), [FUSE]),
    (tellers.Teller, [DISK]), (tellers.yeses_of, [DISK]),
    (of_new(new_teller, "take"), [("letter", (6, 0, "what", 1), BadValue("letter"), LETTER_WRONG + [(0, 6, "yes", 1)])]),
    (of_new(new_teller, "give_up"), [NODE_DEAL]), (of_new(new_teller, "cut"), LANDS), (of_new(new_teller, "fuse"), [FUSE]),
    (programs.Program, [("things", PROGRAM.things, BadProgram("things"), NO_LIST + [[], [None], [Odd()]]),
                        ("hands", [[[(0, 1)]]], BadProgram("hands"), NO_LIST + [[], [None], [[[]]], [[[(0, 2)]]], [Odd()]]), PAIRS]),
    (patience.goes_one_way, [PAIRS]), (patience.depths, [PAIRS]), (patience.eased, [PAIRS]),
    (patience.by_number, [("many", 3, BadNumber("many"), [True, None, -1, 9, Odd()]),
                          ("is_up", True, BadValue("is_up"), [None, 1, 0, "up", Odd()])]),
    (check_patience.shows_one_way, [PAIRS, ANY]), (check_patience.shows_eased, [PAIRS, ANY]),
    (scripts.script_text, [SCRIPT]), (scripts.read_script, [("text", "send 0", BadText(0), [None, 7, b"send 0", "x", Odd()])]),
    (worlds.World, [PROGRAM_FIRST]), (of_new(new_world, "step"), [("told", ("send", 0), BadScript("told"), SCRIPT_WRONG)]),
    (of_new(new_world, "run"), [SCRIPT]), (of_new(new_world, "log"), [("thing", 0, BadNumber("thing"), [True, None, -1, 1, Odd()])]),
    (stories.story, [("world", new_world(), BadValue("world"), [None, PROGRAM, Odd()])]),
    (tears.torn, [WRONG]), (tears.tight, [("spread", least_notes.majority(BOX, 2), BadSpread("spread"), [None, BOX, ROWS, Odd()])]),
    (tears.played_world, [PROGRAM_FIRST, SCRIPT]), (check_tears.shows_torn, [SPREAD, ANY]), (check_tears.shows_tight, [SPREAD, ANY]),
    (rings.ring_of, [RING]), (rings.played_ring, [RING])]


class Arguments(Refusing):

    def check(self, function, parameters):
        names = [name for name, _, _, _ in parameters]
        rights = [right for _, right, _, _ in parameters]
        for way in (lambda given: function(*given), lambda given: function(**dict(list(zip(names, given))[::-1]))):
            way(rights)
            for place, (_, _, error, wrong) in enumerate(parameters):
                behind = [(told[3] or [None])[0] for told in parameters[place + 1:]]
                for value in wrong:
                    self.refuses(error, way, rights[:place] + [value] + rights[place + 1:])
                    self.refuses(error, way, rights[:place] + [value] + behind)
                    self.refuses(error, way, rights[:place] + [value] + [Odd() for _ in behind])

    def test_all(self):
        for function, parameters in PLAIN + JOINED + KEEPING + SPREADING + LASTLY:
            with self.subTest(function=function.__qualname__, parameters=[name for name, _, _, _ in parameters]):
                self.check(function, parameters)
