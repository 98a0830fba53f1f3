"""Spreads: at how few sites a deal must look for an operation, and at how few it must be noted."""

from fewvisits.checks import is_list, is_within, need_number, need_within
from fewvisits.errors import BadSpread, Misfit
from fewvisits.kinds import need_kind, operations_of
from fewvisits.papers import fixed

MOST_SITES = 5


def is_spread_row(value, operation, sites):
    """Whether it is a row of this operation, its visits and its notes."""
    if not is_list(value) or len(value) != 4:
        return False
    ask, answer, visits, notes = value
    if not is_within(ask, operation[0], operation[0]) or not is_within(answer, operation[1], operation[1]):
        return False
    return is_within(visits, 1, sites) and is_within(notes, 0, visits)


def are_spread_rows(value, operations, sites):
    """Whether it is a list of a row for each of these operations, in their order."""
    if not is_list(value) or len(value) != len(operations):
        return False
    return all([is_spread_row(row, operation, sites) for row, operation in zip(value, operations)])


class Spread:
    """A kind, a number of sites, and rows (ask, answer, visits, notes)."""

    def __init__(self, kind, sites, rows):
        need_kind(kind)
        need_within(sites, 1, MOST_SITES, "sites")
        if not are_spread_rows(rows, operations_of(kind), sites):
            raise BadSpread("rows")
        self.kind = kind
        self.sites = fixed(sites)
        self.rows = fixed(rows)
        self._numbers = {row[:2]: row[2:] for row in self.rows}

    def __eq__(self, other):
        if not isinstance(other, Spread):
            return False
        return self.kind == other.kind and self.sites == other.sites and self.rows == other.rows


def need_spread(spread):
    """Raises BadSpread for no spread."""
    if not isinstance(spread, Spread):
        raise BadSpread("spread")


def numbers_of(spread, operation):
    """The visits and the notes of an operation, None if the spread does not tell them."""
    return spread._numbers.get(operation)


def told_numbers(spread, ask, answer):
    """The visits and the notes of an operation; an error for what is none of the spread."""
    need_spread(spread)
    need_number(ask, len(spread.kind.asks), "ask")
    need_number(answer, len(spread.kind.answers), "answer")
    numbers = numbers_of(spread, (ask, answer))
    if numbers is None:
        raise Misfit("operation")
    return numbers


def visits_of(spread, ask, answer):
    """The visits of an operation."""
    return told_numbers(spread, ask, answer)[0]


def notes_of(spread, ask, answer):
    """The notes of an operation."""
    return told_numbers(spread, ask, answer)[1]


def visiting_at_most(spread, most):
    """The operations whose visits are at most so many, ascending."""
    return tuple([row[:2] for row in spread.rows if row[2] <= most])


def missing(spread, ask, answer):
    """The operations that may miss an operation, ascending."""
    notes = notes_of(spread, ask, answer)
    return visiting_at_most(spread, spread.sites - notes)


def going(spread, up):
    """The operations whose visits are at most up, ascending."""
    need_spread(spread)
    need_within(up, 0, spread.sites, "up")
    return visiting_at_most(spread, up)
