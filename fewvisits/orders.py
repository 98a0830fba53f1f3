"""Orders of a history."""

from fewvisits.errors import BadOrder
from fewvisits.histories import need_history, operations, seen_of
from fewvisits.papers import Denial, Paper, fixed
from fewvisits.plays import lead
from fewvisits.searches import is_order, least_order, leads_of, need_few


class Fits(Paper):
    """This order fits."""

    def __init__(self, order):
        self.word = "fits"
        self.parts = fixed((order,))
        self.order = self.parts[0]


class Bars(Denial):
    """No order fits: each one begins with one of these, and they do not fit."""

    def __init__(self, beginnings):
        self.word = "bars"
        self.parts = fixed((beginnings,))
        self.beginnings = self.parts[0]


def need_order(history, order):
    """Raises BadValue for no history, BadOrder for no list of all its ended deals, each once."""
    need_history(history)
    if not is_order(order, history.ended):
        raise BadOrder("order")


def holds(seen, order):
    """Whether of each of these pairs of deals the first stands ahead of the second in the order."""
    places = {deal: place for place, deal in enumerate(order)}
    return all([places[one] < places[other] for one, other in seen])


def holds_seen(history, order):
    """Whether the order holds what is seen."""
    need_order(history, order)
    return holds(seen_of(history), order)


def left_by(history, order):
    """The state that the order leaves, None if it does not fit."""
    need_order(history, order)
    state = history.kind.first
    for deal in order:
        state = lead(history.kind, state, operations(history, deal))
        if state is None:
            return None
    return state


def fits(history, order):
    """Whether the order fits."""
    return left_by(history, order) is not None


def lane_of(history):
    """For each ended deal what leads_of tells of its operations."""
    return {deal: leads_of(history.kind, operations(history, deal)) for deal in history.ended}


def order_for(history):
    """The least order that fits, or the shortest beginnings of all orders that do not fit."""
    need_history(history)
    need_few(history.ended)
    bars = []
    found = least_order([lane_of(history)], [history.kind.first], (), history.ended, bars)
    if found is None:
        return Bars([beginning for beginning, _ in bars])
    return Fits(found)
