"""Checking papers on which operations go beside one another."""

from fewvisits.besides import Goes, Jars, need_operation
from fewvisits.checks import is_just
from fewvisits.kinds import need_kind
from fewvisits.papers import fixed
from fewvisits.parting import moves_by
from fewvisits.showing import are_carried, cross_within, is_closed_lot, shows_jar


def shows_beside(kind, one, other, value):
    """Whether a value is a right paper on whether two operations go beside one another."""
    need_kind(kind)
    need_operation(kind, one, "one")
    need_operation(kind, other, "other")
    couple = (fixed(one), fixed(other))
    if isinstance(value, Goes):
        if not is_closed_lot(kind, value.places) or not are_carried(kind, moves_by(kind, None), value.pairs):
            return False
        return cross_within(kind, value.places, {couple: True}, value.pairs)
    if isinstance(value, Jars):
        if not is_just((value.first, value.second), couple) and not is_just((value.second, value.first), couple):
            return False
        return shows_jar(kind, value.before, value.first, value.second, value.behind)
    return False
