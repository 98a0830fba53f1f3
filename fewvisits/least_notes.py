"""The least notes for given visits."""

from fewvisits.besides import beside_table
from fewvisits.checks import is_list, need_within
from fewvisits.errors import BadNumber
from fewvisits.kinds import need_kind, operations_of
from fewvisits.parting import lengths_apart, moves_by
from fewvisits.spreads import MOST_SITES, Spread
from fewvisits.unnoticed import steps_of


def need_visits(kind, sites, visits):
    """Raises an error for no kind, no number of sites, or no list of visits of its operations."""
    need_kind(kind)
    need_within(sites, 1, MOST_SITES, "sites")
    if not is_list(visits) or len(visits) != len(operations_of(kind)):
        raise BadNumber("visits")
    for told in visits:
        need_within(told, 1, sites, "visits")


def unmet_pairs(kind, sites, visits):
    """The pairs (one, other), one not greater than other, that neither meet nor go beside one another, ascending."""
    need_visits(kind, sites, visits)
    told = {operation: many for operation, many in zip(operations_of(kind), visits)}
    return tuple([(one, other) for one, other in beside_table(kind)
                  if one <= other and told[one] + told[other] <= sites])


def is_unnoticed(kind, operation, lengths):
    """Whether an operation is unnoticed by those of which lengths_apart told these."""
    return not any([step in lengths for step in steps_of(kind, operation)])


def notes_for(kind, sites, visits):
    """The least notes of each operation, None for each of which they would be more than its visits."""
    need_visits(kind, sites, visits)
    told = list(zip(operations_of(kind), visits))
    found = {}
    # The fewer may miss an operation, the more notes it has: so the greatest notes are tried first.
    for notes in range(sites, -1, -1):
        by = {operation: True for operation, many in told if many + notes <= sites}
        lengths = lengths_apart(kind, moves_by(kind, by))
        for operation, _ in told:
            if is_unnoticed(kind, operation, lengths):
                found[operation] = notes
    return tuple([found[operation] if found[operation] <= many else None for operation, many in told])


def majority(kind, sites):
    """The spread whose visits are all the least integer above half of the sites, with the least notes."""
    need_kind(kind)
    need_within(sites, 1, MOST_SITES, "sites")
    many = sites // 2 + 1
    told = operations_of(kind)
    notes = notes_for(kind, sites, [many for _ in told])
    return Spread(kind, sites, [operation + (many, least) for operation, least in zip(told, notes)])
