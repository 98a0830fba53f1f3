"""Values and conditions of a thing: reading them, and what they come to in a state."""

from fewvisits.errors import BadText
from fewvisits.fields import MOST_WORTH

MOST_DEPTH = 12


class Scope:
    """What may be named in a text: these fields, and perhaps it and one."""

    def __init__(self, fields, has_it, has_one):
        self.shapes = [field.shape for field in fields]
        self.places = {field.name: place for place, field in enumerate(fields)}
        self.has_it = has_it
        self.has_one = has_one


def place_read(reader, scope, shapes):
    """Reads the name of a field of one of these shapes; returns its place."""
    place = scope.places.get(reader.ahead())
    if place is None or scope.shapes[place] not in shapes:
        reader.refuse()
    reader.skip()
    return place


def need_depth(reader, depth):
    """Raises BadText at the next item if it is to begin a value or a condition at a depth that is too great."""
    if depth > MOST_DEPTH:
        raise BadText(reader.place)


def value_read(reader, scope, depth):
    """Reads a value of this depth: a tuple of a word, and of places of fields, values or an integer."""
    need_depth(reader, depth)
    item = reader.ahead()
    if item in ("+", "-"):
        reader.skip()
        first = value_read(reader, scope, depth + 1)
        return (item, first, value_read(reader, scope, depth + 1))
    if item == "size":
        reader.skip()
        return (item, place_read(reader, scope, ("line", "lot")))
    if item in ("front", "back"):
        reader.skip()
        return (item, place_read(reader, scope, ("line",)))
    if (item == "it" and scope.has_it) or (item == "one" and scope.has_one):
        return (reader.skip(),)
    if item in scope.places:
        return ("number", place_read(reader, scope, ("number",)))
    return ("integer", reader.integer(-MOST_WORTH, MOST_WORTH))


def condition_read(reader, scope, depth):
    """Reads a condition of this depth: a tuple of a word, and of places of fields, values or conditions."""
    need_depth(reader, depth)
    item = reader.ahead()
    if item not in ("yes", "<", "=", "has", "not", "and", "or"):
        reader.refuse()
    reader.skip()
    if item == "yes":
        return (item,)
    if item == "has":
        place = place_read(reader, scope, ("line", "lot"))
        return (item, place, value_read(reader, scope, depth + 1))
    if item in ("<", "="):
        first = value_read(reader, scope, depth + 1)
        return (item, first, value_read(reader, scope, depth + 1))
    first = condition_read(reader, scope, depth + 1)
    if item == "not":
        return (item, first)
    return (item, first, condition_read(reader, scope, depth + 1))


def worth(value, state, it, one):
    """What a value is in a state, None if it is not there; it and one are the numbers that these stand for."""
    word = value[0]
    if word == "integer":
        return value[1]
    if word == "number":
        return state[value[1]]
    if word == "it":
        return it
    if word == "one":
        return one
    if word == "size":
        return len(state[value[1]])
    if word in ("front", "back"):
        held = state[value[1]]
        if not held:
            return None
        return held[0] if word == "front" else held[-1]
    first = worth(value[1], state, it, one)
    second = worth(value[2], state, it, one)
    if first is None or second is None:
        return None
    return first + second if word == "+" else first - second


def holds_so(condition, state, it, one):
    """Whether a condition is so in a state, None if a value in it is not there."""
    word = condition[0]
    if word == "yes":
        return True
    if word == "has":
        item = worth(condition[2], state, it, one)
        return None if item is None else item in state[condition[1]]
    if word in ("<", "="):
        told = [worth(value, state, it, one) for value in condition[1:]]
    else:
        told = [holds_so(inner, state, it, one) for inner in condition[1:]]
    if None in told:
        return None
    if word == "<":
        return told[0] < told[1]
    if word == "=":
        return told[0] == told[1]
    if word == "not":
        return not told[0]
    return all(told) if word == "and" else any(told)
