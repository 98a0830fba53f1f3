"""Letters between hands, sites and the teller."""

from fewvisits.checks import is_integer, is_list, is_lot, is_within
from fewvisits.courses import MOST_DEALS
from fewvisits.errors import BadValue
from fewvisits.papers import fixed

MOST_PLACES = 6
TELLER = 6
FIRST_HAND = 7
LAST_HAND = 14

# What a letter has behind its deal, by who sends it to whom, and its word.
FORMS = {
    ("hand", "site", "visit"): ("number", "try", "life"),
    ("hand", "site", "note"): ("number", "try", "life", "ask", "answer", "date", "noted", "rows"),
    ("hand", "site", "leave"): ("number", "try", "others"),
    ("hand", "site", "no"): (),
    ("site", "hand", "shown"): ("number", "try", "life", "date or 0", "rows", "marks"),
    ("site", "hand", "noted"): ("number", "life"),
    ("site", "hand", "still"): ("number", "try", "life"),
    ("site", "hand", "gone"): ("life",),
    ("hand", "teller", "end"): ("life", "parts"),
    ("teller", "hand", "told"): ("told", "life"),
    ("teller", "site", "hold"): ("many", "life"),
    ("teller", "site", "yes"): (),
    ("teller", "site", "no"): (),
    ("site", "teller", "held"): (),
    ("site", "teller", "barred"): (),
    ("site", "teller", "what"): (),
    ("site", "teller", "done"): (),
}

# The least and the greatest of each integer, None for no bound.
BOUNDS = {
    "site": (0, 5), "deal": (0, 11), "number": (0, 11), "try": (0, None), "ask": (0, 7), "answer": (0, 11),
    "date": (1, None), "date or 0": (0, None), "life": (1, None), "many": (1, 12), "noted": (0, 1), "told": (0, 1),
    "ready": (0, 1),
}

DO = ("deal", "number", "ask", "answer", "date")
MARK = ("deal", "ready", "ask", "answer")
PART = ("site", "many", "life")


def role_of(node):
    """Who a node is: "site", "teller" or "hand"; None for no node."""
    if not is_integer(node):
        return None
    if 0 <= node < MOST_PLACES:
        return "site"
    if node == TELLER:
        return "teller"
    return "hand" if FIRST_HAND <= node <= LAST_HAND else None


def is_bounded(name, value):
    """Whether it is an integer within the bounds of this name."""
    return is_within(value, BOUNDS[name][0], BOUNDS[name][1])


def are_rows_of(names, value):
    """Whether it is a list of lists of integers that have these names."""
    if not is_list(value) or not all([is_list(row) and len(row) == len(names) for row in value]):
        return False
    return all([is_bounded(name, item) for row in value for name, item in zip(names, row)])


def ascend(keys):
    """Whether each one is greater than the one ahead."""
    return all([key < later for key, later in zip(keys, keys[1:])])


def by_date(do):
    """What dos are put in order by: the date, then the deal, then the number."""
    return (do[4], do[0], do[1])


def are_dos(value):
    """Whether it is a list of dos, by their dates, no two of one deal and number."""
    if not are_rows_of(DO, value):
        return False
    return ascend([by_date(do) for do in value]) and len({(do[0], do[1]): True for do in value}) == len(value)


def are_marks(value):
    """Whether it is a list of marks, ascending, a deal that is ready having just one."""
    if not are_rows_of(MARK, value) or not ascend([tuple(row) for row in value]):
        return False
    deals = [row[0] for row in value]
    return all([row[1] == 0 or (row[2] == 0 and row[3] == 0 and deals.count(row[0]) == 1) for row in value])


def are_parts(value):
    """Whether it is a list of the parts of an end, sites ascending."""
    return are_rows_of(PART, value) and ascend([row[0] for row in value])


def is_item(name, value):
    """Whether it is an item of a letter of this name."""
    if name in BOUNDS:
        return is_bounded(name, value)
    if name == "others":
        return is_lot(value, MOST_DEALS)
    if name == "marks":
        return are_marks(value)
    if name == "parts":
        return are_parts(value)
    return are_dos(value)


def is_letter(value):
    """Whether any value is a letter."""
    if not is_list(value) or len(value) < 4 or not isinstance(value[2], str):
        return False
    names = FORMS.get((role_of(value[1]), role_of(value[0]), value[2]))
    if names is None or len(value) != 4 + len(names) or not is_bounded("deal", value[3]):
        return False
    if not all([is_item(name, item) for name, item in zip(names, value[4:])]):
        return False
    if value[2] != "note":
        return True
    return (value[3], value[4]) not in [(do[0], do[1]) for do in value[11]]


def need_letter_to(letter, node):
    """Raises BadValue for no letter to this node."""
    if not is_letter(letter) or letter[0] != node:
        raise BadValue("letter")


def text_of(items):
    """Integers with single blanks between."""
    return " ".join([str(item) for item in items])


def letter_text(letter):
    """The text of a letter."""
    if not is_letter(letter):
        raise BadValue("letter")
    told = []
    for place, item in enumerate(fixed(letter)):
        if not isinstance(item, tuple):
            told.append(str(item))
        elif letter[2] == "leave":
            told = told + [str(other) for other in item]
        else:
            bar = "|" if letter[2] == "shown" and place == 9 else "/"
            told = told + [f"{bar} {text_of(row)}" for row in item]
    return " ".join(told)
