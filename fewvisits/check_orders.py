"""Checking papers on orders."""

from fewvisits.checks import is_just
from fewvisits.histories import need_history
from fewvisits.orders import Bars, Fits, fits, order_for
from fewvisits.searches import is_order, need_few
from fewvisits.weaves import fits_all, need_weave, order_of_all


def are_bars(value, wanted):
    """Whether it is a Bars of the same beginnings as the paper that is wanted."""
    return isinstance(value, Bars) and isinstance(wanted, Bars) and is_just(value.beginnings, wanted.beginnings)


def shows_order(history, value):
    """Whether a value is a right paper on whether some order of the history fits."""
    need_history(history)
    need_few(history.ended)
    if isinstance(value, Fits):
        return is_order(value.order, history.ended) and fits(history, value.order)
    return are_bars(value, order_for(history))


def shows_order_of_all(weave, value):
    """Whether a value is a right paper on whether some order of the weave fits."""
    need_weave(weave)
    need_few(weave.ended)
    if isinstance(value, Fits):
        return is_order(value.order, weave.ended) and fits_all(weave, value.order)
    return are_bars(value, order_of_all(weave))
