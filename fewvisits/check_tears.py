"""Checking papers on tears, and on tight spreads."""

from fewvisits.check_right import shows_right
from fewvisits.checks import is_integer
from fewvisits.programs import Program
from fewvisits.right import Missed, Unmet, is_right
from fewvisits.scripts import is_script
from fewvisits.spreads import need_spread
from fewvisits.tears import Slack, Tight, Torn, lesser_spreads, played_world
from fewvisits.weaves import order_of_all


def shows_torn(spread, value):
    """Whether a value is a right Torn of a spread: no order fits behind its script."""
    need_spread(spread)
    if not isinstance(value, Torn) or not isinstance(value.program, Program) or not is_script(value.script):
        return False
    things = value.program.things
    if things[0][0] != spread or not all([is_right(other) for other, _ in things[1:]]):
        return False
    return not order_of_all(played_world(value.program, value.script).settled())


def are_numbers(values):
    """Whether they are integers, which True and False are not."""
    return all([is_integer(value) for value in values])


def shows_less_wrong(spread, value):
    """Whether a value is a paper that shows that a spread is not right."""
    return isinstance(value, (Unmet, Missed)) and shows_right(spread, value)


def shows_tight(spread, value):
    """Whether a value is a right paper on whether a right spread is tight."""
    need_spread(spread)
    if not isinstance(value, (Tight, Slack)) or not is_right(spread):
        return False
    spreads = lesser_spreads(spread)
    if isinstance(value, Slack):
        lower = [less for place, less in spreads if are_numbers(value.parts) and place == value.parts]
        return any([bool(is_right(less)) for less in lower])
    rows = value.rows
    if not isinstance(rows, tuple) or len(rows) != len(spreads):
        return False
    for row, told in zip(rows, spreads):
        if not isinstance(row, tuple) or len(row) != 4 or not are_numbers(row[:3]) or row[:3] != told[0]:
            return False
        if not shows_less_wrong(told[1], row[3]):
            return False
    return True
