"""Scripts: what is done in a world, step by step."""

from fewvisits.checks import is_list, is_within
from fewvisits.errors import BadScript
from fewvisits.papers import fixed
from fewvisits.texts import Reader

MOST_SCRIPT_STEPS = 2000

# What a step has behind its word.
STEPS = {
    "visit": ("hand", "site"), "decide": ("hand", "bits"), "leave": ("hand",), "send": ("hand",),
    "bring": ("at",), "lose": ("at",), "twice": ("at",),
    "cut": ("node", "bits"), "fuse": ("node", "many"), "rise": ("node",),
    "drop": ("site", "deal"), "again": ("node",), "quit": ("deal",),
}

# The greatest of each integer, None for no bound; the least is 0.
GREATEST = {"hand": 7, "site": 5, "node": 6, "deal": 7, "at": None, "bits": None, "many": None}


def is_step(value):
    """Whether any value is a step of the world."""
    if not is_list(value) or len(value) == 0 or not isinstance(value[0], str):
        return False
    names = STEPS.get(value[0])
    if names is None or len(value) != 1 + len(names):
        return False
    return all([is_within(item, 0, GREATEST[name]) for name, item in zip(names, value[1:])])


def is_script(value):
    """Whether any value is a list of steps of the world."""
    return is_list(value) and len(value) <= MOST_SCRIPT_STEPS and all([is_step(step) for step in value])


def need_script(script):
    """Raises BadScript for no script."""
    if not is_script(script):
        raise BadScript("script")


def script_text(script):
    """The text of a script."""
    need_script(script)
    return " / ".join([" ".join([str(item) for item in step]) for step in script])


def step_read(reader):
    """Reads a step."""
    word = reader.ahead()
    if word not in STEPS:
        reader.refuse()
    reader.skip()
    return (word,) + tuple([reader.integer(0, GREATEST[name]) for name in STEPS[word]])


def read_script(text):
    """The script whose text is just this one."""
    reader = Reader(text)
    if reader.told == [""]:
        return ()
    steps = [step_read(reader)]
    while not reader.done():
        if len(steps) == MOST_SCRIPT_STEPS:
            reader.refuse()
        reader.expect("/")
        steps.append(step_read(reader))
    return fixed(steps)
