"""Papers: answers with what shows them."""

from fewvisits.checks import is_integer, is_list


def fixed(value):
    """Any value with tuples in the place of lists, all the way in."""
    if is_list(value):
        return tuple([fixed(item) for item in value])
    # What is returned is of no class of its own, be it of a class below int or str where it was passed.
    if is_integer(value):
        return int(value)
    if isinstance(value, str):
        return "".join([value])
    return value


class Paper:
    """An answer, and what shows it."""

    def __init__(self, word, *parts):
        self.word = fixed(word)
        self.parts = fixed(parts)

    def __eq__(self, other):
        if not isinstance(other, Paper):
            return False
        return type(self) is type(other) and self.word == other.word and self.parts == other.parts

    def __bool__(self):
        return True


class Denial(Paper):
    """A paper that says no."""

    def __init__(self, word, *parts):
        self.word = fixed(word)
        self.parts = fixed(parts)

    def __eq__(self, other):
        if not isinstance(other, Denial):
            return False
        return type(self) is type(other) and self.word == other.word and self.parts == other.parts

    def __bool__(self):
        return False
