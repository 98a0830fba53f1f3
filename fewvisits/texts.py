"""Reading texts: items with single blanks between."""

from fewvisits.checks import is_within, is_word
from fewvisits.errors import BadText

DIGITS = "0123456789"
MOST_DIGITS = 60


def number_told(item):
    """The integer that an item tells, None if it tells none just so as it is written."""
    digits = item[1:] if item[:1] == "-" else item
    if not 1 <= len(digits) <= MOST_DIGITS or not all([digit in DIGITS for digit in digits]):
        return None
    if digits[0] == "0" and item != "0":
        return None
    return int(item)


class Reader:
    """Goes along the items of a text, and raises BadText at the first one that cannot stand."""

    def __init__(self, text):
        if not isinstance(text, str):
            raise BadText(0)
        self.told = text.split(" ")
        self.place = 0

    def done(self):
        """Whether all items are read."""
        return self.place == len(self.told)

    def sees(self, mark):
        """Whether the next item is there and is this one."""
        return self.ahead() == mark

    def ahead(self):
        """The next item, None behind the last one."""
        return None if self.done() else self.told[self.place]

    def refuse(self):
        """Raises BadText at the next item, be it there or missing."""
        raise BadText(self.place)

    def skip(self):
        """Goes on behind the next item, and returns it."""
        self.place = self.place + 1
        return self.told[self.place - 1]

    def expect(self, mark):
        """Reads just this item."""
        if not self.sees(mark):
            self.refuse()
        self.skip()

    def any_word(self):
        """Reads a word."""
        if not is_word(self.ahead()):
            self.refuse()
        return self.skip()

    def unlike_words(self, most):
        """Reads one to most unlike words, up to a bar; with most of them the next item is not looked at."""
        found = []
        while not found or (len(found) < most and not self.sees("/")):
            if self.ahead() in found:
                self.refuse()
            found.append(self.any_word())
        return found

    def integer(self, least, most):
        """Reads an integer from least to most; None is no bound."""
        told = None if self.done() else number_told(self.told[self.place])
        if not is_within(told, least, most):
            self.refuse()
        self.skip()
        return told
