"""Checking papers on the own rule."""

from fewvisits.checks import is_just, is_lot
from fewvisits.orders import fits, holds_seen, lane_of
from fewvisits.own import Breaks, Keeps, closed_lots, without
from fewvisits.searches import is_order


def is_room(value, lot, states):
    """Whether it is a pair of this closed lot, and of a lot of numbers below states."""
    if not isinstance(value, tuple) or len(value) != 2:
        return False
    return is_just(value[0], lot) and is_lot(value[1], states)


def are_rooms(value, lots, states):
    """Whether it is a tuple of a pair for each of these closed lots, in their order."""
    if not isinstance(value, tuple) or len(value) != len(lots):
        return False
    return all([is_room(pair, lot, states) for pair, lot in zip(value, lots)])


def lead_on(history, rooms):
    """Whether these lots of states, by their closed lots, show that the own rule is kept."""
    if history.kind.first not in rooms[()]:
        return False
    lane = lane_of(history)
    for lot in rooms:
        for deal in lot:
            for state in rooms.get(without(lot, deal), ()):
                if lane[deal][state] not in rooms[lot]:
                    return False
    return True


def shows_keeps(history, value):
    """Whether a value is a right paper on whether the history keeps the own rule."""
    lots = closed_lots(history)
    if isinstance(value, Keeps) and are_rooms(value.rooms, lots, history.kind.states):
        return lead_on(history, {lot: room for lot, room in value.rooms})
    if isinstance(value, Breaks) and is_order(value.order, history.ended):
        return holds_seen(history, value.order) and not fits(history, value.order)
    return False
