"""Things that keep their own rule, and the one order that they all fit."""

from fewvisits.checks import is_within
from fewvisits.orders import Fits, fits, holds_seen
from fewvisits.own import keeps
from fewvisits.papers import Denial, fixed
from fewvisits.searches import is_order, need_few
from fewvisits.weaves import at, fits_all, last_order, need_weave


class Lax(Denial):
    """The thing breaks its own rule: this order holds what is seen there, and does not fit there."""

    def __init__(self, thing, order):
        self.word = "lax"
        self.parts = fixed((thing, order))
        self.thing, self.order = self.parts


def all_histories(weave):
    """The histories of all things; TooMany if one has too many events, or else too many ended deals."""
    need_weave(weave)
    found = [at(weave, thing) for thing in range(len(weave.kinds))]
    for history in found:
        need_few(history.ended)
    return found


def joined(weave):
    """The order by last readies, or the first thing that breaks its own rule, with an order that shows it."""
    for thing, history in enumerate(all_histories(weave)):
        paper = keeps(history)
        if not paper:
            return Lax(thing, paper.order)
    return Fits(last_order(weave))


def thereof(order, deals):
    """What an order has of these deals, in its order."""
    return [deal for deal in order if deal in deals]


def shows_joined(weave, value):
    """Whether a value is a right paper on whether all things keep their own rule."""
    histories = all_histories(weave)
    if isinstance(value, Fits) and is_order(value.order, weave.ended) and fits_all(weave, value.order):
        return all([holds_seen(history, thereof(value.order, history.ended)) for history in histories])
    if not isinstance(value, Lax) or not is_within(value.thing, 0, len(histories) - 1):
        return False
    history = histories[value.thing]
    return is_order(value.order, history.ended) and holds_seen(history, value.order) and not fits(history, value.order)
