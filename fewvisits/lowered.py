"""Spreads whose numbers are lowered as far as they stay right."""

from fewvisits.errors import Impossible
from fewvisits.lowering import Numbers
from fewvisits.right import is_right
from fewvisits.spreads import Spread, need_spread


def lower_in_turn(numbers):
    """Does one round; whether it lowered anything."""
    changed = False
    for operation in list(numbers.visits):
        while numbers.lower_visits(operation):
            changed = True
    for operation in list(numbers.notes):
        while numbers.lower_notes(operation):
            changed = True
    return changed


def lowered(spread):
    """The right spread that comes of a right one by rounds of lowering."""
    need_spread(spread)
    paper = is_right(spread)
    if not paper:
        raise Impossible(paper)
    numbers = Numbers(spread)
    changed = True
    while changed:
        changed = lower_in_turn(numbers)
    return Spread(spread.kind, spread.sites, numbers.spread_rows())
