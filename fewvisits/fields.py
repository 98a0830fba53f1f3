"""The fields of a thing: numbers, lines and lots."""

from fewvisits.checks import is_list, is_lot, is_within, is_word

SHAPES = ("number", "line", "lot")
RESERVED = ("number", "line", "lot", "ask", "when", "may", "pick", "answer", "it", "one", "front", "back", "size",
            "has", "not", "and", "or", "yes", "set", "push", "shift", "pop", "put", "drop")
DIGITS = "0123456789"
MOST_FIELDS = 6
MOST_WORTH = 999
MOST_ROOM = 8
MOST_ITEMS = 9


class Field:
    """What a field keeps: a number, or items, each from low to high; a line has at most room items."""

    def __init__(self, shape, name, low, high, room, first):
        self.shape = shape
        self.name = name
        self.low = low
        self.high = high
        self.room = room
        self.first = first

    def takes(self, told):
        """Whether an integer can be kept by the number, or be an item."""
        return self.low <= told <= self.high

    def can_keep(self, value):
        """Whether any value is one that the field can have."""
        if self.shape == "number":
            return is_within(value, self.low, self.high)
        if self.shape == "lot":
            return is_lot(value, self.high + 1)
        if not is_list(value) or len(value) > self.room:
            return False
        return all([is_within(item, self.low, self.high) for item in value])


def name_read(reader, fields):
    """Reads the name of a field that stands behind these."""
    item = reader.ahead()
    if not is_word(item) or item[0] in DIGITS or item in RESERVED or item in [field.name for field in fields]:
        reader.refuse()
    return reader.skip()


def field_read(reader, fields):
    """Reads a field that stands behind these, up to its end; its word is there."""
    shape = reader.skip()
    name = name_read(reader, fields)
    if shape == "number":
        low = reader.integer(-MOST_WORTH, MOST_WORTH)
        high = reader.integer(low, MOST_WORTH)
        return Field(shape, name, low, high, 0, reader.integer(low, high))
    room = reader.integer(1, MOST_ROOM) if shape == "line" else 0
    return Field(shape, name, 0, reader.integer(1, MOST_ITEMS) - 1, room, ())


def fields_read(reader):
    """Reads the fields of a thing, and the bars behind them."""
    fields = []
    while reader.ahead() in SHAPES and len(fields) < MOST_FIELDS:
        fields.append(field_read(reader, fields))
        reader.expect("/")
    return fields
