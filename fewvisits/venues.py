"""Things of a world at their sites: what a try of a step sees there, and which answers it may get."""

from fewvisits.besides import beside_table
from fewvisits.kinds import moves_of
from fewvisits.letters import by_date
from fewvisits.plays import lead


class Venue:
    """A thing, its spread, its sites, and which of its operations do not go beside one another."""

    def __init__(self, thing, spread, sites):
        self.thing = thing
        self.spread = spread
        self.sites = sites
        self.jarring = {pair: True for pair in beside_table(spread.kind)}

    def numbered(self, lot):
        """The numbers that the spread has for a lot of the sites."""
        return tuple([self.sites.index(site) for site in lot])

    def is_barred(self, operation, mark):
        """Whether a mark bars an operation: that of a deal that is ready, or of what does not go beside."""
        return mark[1] == 1 or self.jars(operation, mark)

    def jars(self, operation, mark):
        """Whether a mark is of an operation at work that does not go beside this one."""
        return mark[1] == 0 and (operation, mark[2:4]) in self.jarring


class Showing:
    """What a site showed: its date, the dos of ended deals, and the marks of others."""

    def __init__(self, date, rows, marks):
        self.date = date
        self.rows = rows
        self.marks = marks


def in_order(dos):
    """Dos by date, then by deal, then by number."""
    keyed = sorted([(by_date(do), do) for do in dos])
    return tuple([do for _, do in keyed])


def all_seen(known, showings):
    """The dos that are known, and those that were shown, each of a deal and number once, in order."""
    found = {do[:2]: do for do in known}
    for showing in showings:
        for do in showing.rows:
            found[do[:2]] = do
    return in_order(list(found.values()))


def answers_in_view(venue, seen, own, ask):
    """The answers that an ask may get where the dos that are seen, and then the own ones, lead; ascending."""
    kind = venue.spread.kind
    state = lead(kind, kind.first, [do[2:4] for do in seen + own])
    if state is None:
        return []
    return [answer for other, answer, _ in moves_of(kind, state) if other == ask]


def is_clear(venue, operation, showings):
    """Whether no mark that was shown bars an operation."""
    return not any([venue.is_barred(operation, mark) for showing in showings for mark in showing.marks])


def jarring_deals(venue, operation, showing):
    """The deals of the marks shown that are at work, and do not go beside an operation, ascending."""
    found = {mark[0]: True for mark in showing.marks if venue.jars(operation, mark)}
    return tuple(sorted(list(found)))


def counts_of(dos):
    """Pairs of each deal that dos are of and how many they are, ascending."""
    found = {}
    for do in dos:
        found[do[0]] = found.get(do[0], 0) + 1
    return tuple(sorted(list(found.items())))
