"""The own rule: a history's ended deals fit in every order that holds what is seen."""

from fewvisits.histories import need_history, seen_of
from fewvisits.orders import lane_of
from fewvisits.papers import Denial, Paper, fixed
from fewvisits.searches import need_few


class Keeps(Paper):
    """The own rule is kept: for each closed lot the pair of it and its room."""

    def __init__(self, rooms):
        self.word = "keeps"
        self.parts = fixed((rooms,))
        self.rooms = self.parts[0]


class Breaks(Denial):
    """The own rule is broken: this order holds what is seen, and does not fit."""

    def __init__(self, order):
        self.word = "breaks"
        self.parts = fixed((order,))
        self.order = self.parts[0]


def seen_ahead(history):
    """For each ended deal those that it has seen."""
    ahead = {deal: [] for deal in history.ended}
    for one, other in seen_of(history):
        ahead[other].append(one)
    return ahead


def is_closed(lot, ahead):
    """Whether a lot has with each deal all that it has seen."""
    return all([one in lot for deal in lot for one in ahead[deal]])


def closed_lots(history):
    """All closed lots, shorter ones first, those of one length ascending."""
    need_history(history)
    need_few(history.ended)
    ahead = seen_ahead(history)
    lots = [()]
    for deal in history.ended:
        lots = lots + [lot + (deal,) for lot in lots]
    found = sorted([(len(lot), lot) for lot in lots if is_closed(lot, ahead)])
    return tuple([lot for _, lot in found])


def without(lot, deal):
    """The lot without one of its deals."""
    return tuple([other for other in lot if other != deal])


def room_of(lot, rooms, lane):
    """The room of a lot, by the rooms of lesser ones; None if some order of the lot cannot be played."""
    found = {}
    for deal in lot:
        for state in rooms.get(without(lot, deal), ()):
            found[lane[deal][state]] = True
    if None in found:
        return None
    return tuple(sorted(list(found)))


def rest_of(taken, left, ahead):
    """The least order of what is left, behind taken, that holds what is seen."""
    found = list(taken)
    rest = list(left)
    while rest:
        deal = [other for other in rest if all([one in found for one in ahead[other]])][0]
        found.append(deal)
        rest.remove(deal)
    return tuple(found)


def first_break(lane, ahead, state, taken, left):
    """The first order that begins with taken, holds what is seen, and cannot be played; None if there is none.

    State is the one that taken leaves; left are the other deals.
    """
    for deal in left:
        if not all([one in taken for one in ahead[deal]]):
            continue
        rest = without(left, deal)
        behind = lane[deal][state]
        if behind is None:
            return rest_of(taken + (deal,), rest, ahead)
        found = first_break(lane, ahead, behind, taken + (deal,), rest)
        if found is not None:
            return found
    return None


def keeps(history):
    """Whether the history keeps the own rule."""
    lots = closed_lots(history)
    lane = lane_of(history)
    first = history.kind.first
    rooms = {(): (first,)}
    for lot in lots[1:]:
        room = room_of(lot, rooms, lane)
        if room is None:
            return Breaks(first_break(lane, seen_ahead(history), first, (), history.ended))
        rooms[lot] = room
    return Keeps([(lot, rooms[lot]) for lot in lots])
