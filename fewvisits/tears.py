"""Tears: worlds in which a spread that is not right is played, and right spreads that are tight."""

from fewvisits.errors import Impossible, Misfit, TooMany
from fewvisits.kinds import is_sure, operations_of
from fewvisits.makers import tickets
from fewvisits.papers import Denial, Paper, fixed
from fewvisits.programs import Program
from fewvisits.right import Unmet, is_right
from fewvisits.scores import Score
from fewvisits.searches import MOST_ENDED
from fewvisits.spreads import Spread, need_spread, numbers_of
from fewvisits.worlds import World

MOST_DEALT = 11


class Torn(Denial):
    """In the world of this program, behind this script, no order of whole deals fits."""

    def __init__(self, program, script):
        self.word = "torn"
        self.parts = fixed((program, script))
        self.program, self.script = self.parts


class Tight(Paper):
    """None of the numbers of these rows can be one less: their papers show it."""

    def __init__(self, rows):
        self.word = "tight"
        self.parts = fixed((rows,))
        self.rows = self.parts[0]


class Slack(Denial):
    """The visits, or, if which is 1, the notes of this operation can be one less."""

    def __init__(self, ask, answer, which):
        self.word = "slack"
        self.parts = fixed((ask, answer, which))
        self.ask, self.answer, self.which = self.parts


def single(kind):
    """The spread of a kind at one site, with one visit and one note for each operation."""
    return Spread(kind, 1, [operation + (1, 1) for operation in operations_of(kind)])


def dealt(operations):
    """A list of operations, dealt to deals of at most 11."""
    return [operations[place:place + MOST_DEALT] for place in range(0, len(operations), MOST_DEALT)]


def deal_of(operations):
    """The steps of a deal that asks what operations tell, and draws."""
    return [(0, operation[0]) for operation in operations] + [(1, 0)]


class Tear:
    """The script of a tear of a spread, as it is written."""

    def __init__(self, spread):
        self.score = Score()
        self.sites = tuple(range(spread.sites))

    def draw_and_end(self, hand, visited):
        """Draws, and ends a deal that visited these sites of thing 0."""
        last = len(self.sites)
        self.score.do(hand, (last,), (last,))
        self.score.end(hand, len(visited) + 1)

    def whole(self, lots, visited):
        """Lets the first hand do deals with these lists of operations, noted wherever they visit."""
        for operations in lots:
            for _ in operations:
                self.score.do(0, visited, visited)
            self.draw_and_end(0, visited)


def torn_by_missed(spread, paper):
    """The hands and the script of the tear that a Missed tells."""
    tear = Tear(spread)
    parted = spread.sites - numbers_of(spread, paper.operation)[1]
    before, behind = dealt(paper.before), dealt(paper.behind)
    tear.whole(before, tear.sites)
    tear.score.do(0, tear.sites, tear.sites[parted:])
    tear.draw_and_end(0, tear.sites)
    tear.whole(behind, tear.sites[:parted])
    return ([[deal_of(lot) for lot in before + [(paper.operation,)] + behind]], tear.score.told)


def torn_by_unmet(spread, paper):
    """The hands and the script of the tear that an Unmet tells."""
    tear = Tear(spread)
    parted = spread.sites - numbers_of(spread, paper.first)[0]
    before, behind = dealt(paper.before), dealt(paper.behind)
    tear.whole(before, tear.sites)
    tear.score.do(0, tear.sites[:parted], tear.sites[:parted])
    tear.score.do(1, tear.sites[parted:], tear.sites[parted:])
    tear.draw_and_end(1, tear.sites[parted:])
    tear.draw_and_end(0, tear.sites[:parted])
    tear.whole(behind, tear.sites)
    first_hand = [deal_of(lot) for lot in before + [(paper.second,)] + behind]
    return ([first_hand, [deal_of((paper.first,))]], tear.score.told)


def torn(spread):
    """The tear of a spread of a sure kind that is not right."""
    need_spread(spread)
    if not is_sure(spread.kind):
        raise Misfit("kind")
    paper = is_right(spread)
    if paper:
        raise Impossible(paper)
    hands, script = torn_by_unmet(spread, paper) if isinstance(paper, Unmet) else torn_by_missed(spread, paper)
    many = sum([len(deals) for deals in hands])
    if many > MOST_ENDED:
        raise TooMany("deals", MOST_ENDED)
    things = [(spread, tuple(range(spread.sites))), (single(tickets(many)), (spread.sites,))]
    return Torn(Program(things, hands), script)


def played_world(program, script):
    """The world of a program in which a script was run."""
    world = World(program)
    world.run(script)
    return world


def lesser(spread, ask, answer, which):
    """The spread with the visits, or, if which is 1, the notes of an operation one less; None if there is none."""
    rows = []
    for row in spread.rows:
        if row[:2] != (ask, answer):
            rows.append(row)
        elif which == 0 and row[2] > max(1, row[3]):
            rows.append((ask, answer, row[2] - 1, row[3]))
        elif which == 1 and row[3] > 0:
            rows.append((ask, answer, row[2], row[3] - 1))
        else:
            return None
    return Spread(spread.kind, spread.sites, rows)


def lesser_spreads(spread):
    """For each number that can be one less its operation, which of the two it is, and the spread with it less."""
    places = [row[:2] + (which,) for row in spread.rows for which in (0, 1)]
    found = [(place, lesser(spread, place[0], place[1], place[2])) for place in places]
    return [(place, less) for place, less in found if less is not None]


def tight(spread):
    """Whether a right spread is tight: none of its numbers can be one less."""
    need_spread(spread)
    paper = is_right(spread)
    if not paper:
        raise Impossible(paper)
    rows = []
    for place, less in lesser_spreads(spread):
        told = is_right(less)
        if told:
            return Slack(place[0], place[1], place[2])
        rows.append(place + (told,))
    return Tight(rows)
