"""Disks: blocks, what waits to be written to them, and the plug."""

from fewvisits.checks import is_integer, is_list, is_lot, need_number, need_within
from fewvisits.errors import BadLot, BadNumber, Misfit, Out
from fewvisits.papers import fixed

LEAST_BLOCKS = 4
MOST_BLOCKS = 256
MOST_IN_BLOCK = 8


def are_integers(value, most):
    """Whether it is a list of at most so many integers."""
    return is_list(value) and len(value) <= most and all([is_integer(item) for item in value])


class Disk:
    """So many blocks; what is written waits, until a flush or a cut."""

    def __init__(self, many):
        need_within(many, LEAST_BLOCKS, MOST_BLOCKS, "many")
        self.many = fixed(many)
        self._lying = [() for _ in range(many)]
        self._read = list(self._lying)
        self._written = []
        self._fuse = None

    def _spend(self):
        """Counts a write or a flush for the fuse; Out if it is the one at which the plug goes out, or behind it."""
        if self._fuse is None:
            return
        if self._fuse == 1:
            raise Out()
        self._fuse = self._fuse - 1

    def write(self, at, block):
        """Writes a block: it waits."""
        need_number(at, self.many, "at")
        if not are_integers(block, MOST_IN_BLOCK):
            raise BadNumber("block")
        self._spend()
        self._written.append((at, fixed(block)))
        self._read[at] = fixed(block)

    def flush(self):
        """Lets all that waits land."""
        self._spend()
        self._lying = list(self._read)
        self._written = []

    def cut(self, lands, torn=()):
        """Pulls the plug: of what waits these writes land, those are torn, all others are lost."""
        if not is_lot(lands, len(self._written)):
            raise BadLot("lands")
        if not is_lot(torn, len(self._written)):
            raise BadLot("torn")
        landed = {number: True for number in lands}
        if any([number in landed for number in torn]):
            raise Misfit("torn")
        tears = {number: True for number in torn}
        for number, (at, block) in enumerate(self._written):
            if number in landed:
                self._lying[at] = block
            elif number in tears:
                self._lying[at] = ()
        self._read = list(self._lying)
        self._written = []
        self._fuse = None

    def fuse(self, many):
        """Lets the plug go out at this one of the next writes and flushes."""
        need_within(many, 1, None, "many")
        self._fuse = many

    def no_fuse(self):
        """Takes the fuse out."""
        self._fuse = None

    def waiting(self):
        """How many writes wait."""
        return len(self._written)

    def look(self, at):
        """What a block reads as."""
        need_number(at, self.many, "at")
        return self._read[at]

    def kept(self):
        """All blocks as they lie, without what waits."""
        return tuple(self._lying)
