"""What integers, lots and words are, for any values."""

from fewvisits.errors import BadNumber

SIGNS = "abcdefghijklmnopqrstuvwxyz0123456789"
MOST_SIGNS = 12


def is_list(value):
    """Whether it is a list or a tuple: these may stand for one another."""
    return isinstance(value, (list, tuple))


def is_integer(value):
    """Whether it is an integer; True and False are none."""
    return isinstance(value, int) and not isinstance(value, bool)


def is_within(value, least, most):
    """Whether it is an integer from least to most; None is no bound."""
    if not is_integer(value):
        return False
    return (least is None or value >= least) and (most is None or value <= most)


def need_within(value, least, most, part):
    """Raises BadNumber with this part for no integer from least to most; None is no bound."""
    if not is_within(value, least, most):
        raise BadNumber(part)


def need_number(value, many, part):
    """Raises BadNumber with this part for no integer from 0 on below many."""
    need_within(value, 0, many - 1, part)


def is_lot(value, many):
    """Whether it is an ascending list of unlike integers from 0 on below many."""
    if not is_list(value) or not all([is_within(item, 0, many - 1) for item in value]):
        return False
    return all([item < later for item, later in zip(value, value[1:])])


def is_word(value):
    """Whether it is a string of 1 to 12 signs, each from a to z or 0 to 9."""
    if not isinstance(value, str) or not 1 <= len(value) <= MOST_SIGNS:
        return False
    return all([sign in SIGNS for sign in value])


def is_just(value, wanted):
    """Whether a value is, all the way in, these tuples of integers, no True or 1.0 standing for an integer."""
    if isinstance(wanted, tuple):
        if not isinstance(value, tuple) or len(value) != len(wanted):
            return False
        return all([is_just(item, other) for item, other in zip(value, wanted)])
    return is_integer(value) and value == wanted
