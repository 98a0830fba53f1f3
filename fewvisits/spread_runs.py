"""Runs of spreads that are not right, told as spread logs."""

from fewvisits.check_right import shows_right
from fewvisits.courses import MOST_EVENTS
from fewvisits.errors import BadValue, TooMany
from fewvisits.pasts import Past, enough_seen
from fewvisits.right import Missed, Unmet
from fewvisits.spreads import need_spread, numbers_of


class Run:
    """The records of a run, as they come."""

    def __init__(self, spread):
        self.past = Past(spread)
        self.told = []
        self.date = 0

    def enter(self, record):
        """Lets a record come."""
        self.past.put(record)
        self.told.append(record)

    def add_do(self, deal, operation, visited, noted):
        """Lets a do come, with the next date, that sees what it must see."""
        seen = enough_seen(self.past, deal, visited, ())
        self.enter(("do", deal, operation[0], operation[1], self.date, visited, noted, seen))
        self.date = self.date + 1

    def add_dos(self, deal, operations, visited):
        """Lets a deal do these operations, each noted at all sites that it visits."""
        for operation in operations:
            self.add_do(deal, operation, visited, visited)

    def end_all(self, deals):
        """Lets deals be ready, and have their yes."""
        for word in ("ready", "yes"):
            for deal in deals:
                self.enter((word, deal))

    def add_deal(self, deal, operations, visited):
        """Lets a deal do these operations, and end; without any it does not occur."""
        self.add_dos(deal, operations, visited)
        if operations:
            self.end_all((deal,))


def need_few_events(lots):
    """Raises TooMany if deals that do these lists of operations have too many events; of none no deal occurs."""
    if sum([2 * len(operations) + 2 for operations in lots if operations]) > MOST_EVENTS:
        raise TooMany("events", MOST_EVENTS)


def unmet_run(spread, paper):
    """The run that an Unmet tells."""
    need_few_events((paper.before, (paper.second,), (paper.first,), paper.behind))
    run = Run(spread)
    sites = tuple(range(spread.sites))
    parted = spread.sites - numbers_of(spread, paper.first)[0]
    run.add_deal(0, paper.before, sites)
    run.add_dos(1, (paper.second,), sites[:parted])
    run.add_dos(2, (paper.first,), sites[parted:])
    run.end_all((1, 2))
    run.add_deal(3, paper.behind, sites)
    return tuple(run.told)


def missed_run(spread, paper):
    """The run that a Missed tells."""
    need_few_events((paper.before, (paper.operation,), paper.behind))
    run = Run(spread)
    sites = tuple(range(spread.sites))
    parted = spread.sites - numbers_of(spread, paper.operation)[1]
    run.add_deal(0, paper.before, sites)
    run.add_do(1, paper.operation, sites, sites[parted:])
    run.end_all((1,))
    run.add_deal(2, paper.behind, sites[:parted])
    return tuple(run.told)


def log_of(spread, paper):
    """The spread log of a run of which each do may be given, and whose history breaks the own rule."""
    need_spread(spread)
    if isinstance(paper, Unmet) and shows_right(spread, paper):
        return unmet_run(spread, paper)
    if isinstance(paper, Missed) and shows_right(spread, paper):
        return missed_run(spread, paper)
    raise BadValue("paper")
