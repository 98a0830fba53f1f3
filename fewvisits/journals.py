"""Journals: a life, a base and records, kept on a disk so that a cut takes no sure one."""

from fewvisits.checks import is_integer, is_list
from fewvisits.disks import Disk, are_integers
from fewvisits.errors import BadLog, BadNumber, BadValue, Full
from fewvisits.papers import fixed

MOST_IN_RECORD = 5
HEAD_BLOCKS = 2
NO_HEAD = (0, 0, 0, 0, 0)


def need_disk(disk):
    """Raises BadValue for no disk."""
    if not isinstance(disk, Disk):
        raise BadValue("disk")


def room_for(many):
    """How many records a journal may have on a disk of so many blocks."""
    return many // 2 - 1


def place_of(many, generation, number):
    """The block of a record of this generation and number on a disk of so many blocks."""
    return HEAD_BLOCKS + number + (room_for(many) if generation % 2 == 1 else 0)


def is_head(block, at):
    """Whether a block with this number is a head."""
    return len(block) == len(NO_HEAD) and block[0] >= 1 and block[0] % 2 == at and min(block[1:4]) >= 0


def head_of(blocks):
    """The head that counts, five noughts without one."""
    return max([NO_HEAD] + [blocks[at] for at in range(HEAD_BLOCKS) if is_head(blocks[at], at)])


def records_of(blocks, head):
    """The records that stand in the blocks with this head."""
    generation, life = head[2:4]
    found = []
    for number in range(room_for(len(blocks))):
        block = blocks[place_of(len(blocks), generation, number)]
        if len(block) < 3 or block[0] != generation or block[1] < life or block[2] != number:
            break
        life = block[1]
        found.append(block[3:])
    return found


class Journal:
    """Comes up on a disk, and keeps its life, its base and its records there."""

    def __init__(self, disk):
        need_disk(disk)
        blocks = [disk.look(at) for at in range(disk.many)]
        head = head_of(blocks)
        self.disk = disk
        self.life = head[1] + 1
        self.base = head[4]
        self._version = head[0] + 1
        self._generation = head[2]
        self._since = head[3]
        self._told = records_of(blocks, head)
        self.room = room_for(disk.many) - len(self._told)
        self.sure = len(self._told)
        write_head(disk, (self._version, self.life, self._generation, self._since, self.base))
        disk.flush()

    def records(self):
        """All records."""
        return tuple(self._told)

    def put(self, record):
        """Puts a record behind the others; it is not sure yet."""
        if not are_integers(record, MOST_IN_RECORD):
            raise BadNumber("record")
        if self.room == 0:
            raise Full("journal")
        self._write_record(self._generation, len(self._told), fixed(record))
        self._told.append(fixed(record))
        self.room = self.room - 1

    def force(self):
        """Makes all records sure."""
        self.disk.flush()
        self.sure = len(self._told)

    def sweep(self, base, records=()):
        """Takes a new base, and these records in the place of all others; they are sure."""
        if not is_integer(base):
            raise BadNumber("base")
        if not is_list(records) or not all([are_integers(record, MOST_IN_RECORD) for record in records]):
            raise BadLog("records")
        if len(records) > room_for(self.disk.many):
            raise Full("journal")
        for number, record in enumerate(records):
            self._write_record(self._generation + 1, number, fixed(record))
        self.disk.flush()
        write_head(self.disk, (self._version + 1, self.life, self._generation + 1, self.life, fixed(base)))
        self.disk.flush()
        self.base = fixed(base)
        self._version = self._version + 1
        self._generation = self._generation + 1
        self._since = self.life
        self._told = list(fixed(records))
        self.room = room_for(self.disk.many) - len(self._told)
        self.sure = len(self._told)

    def _write_record(self, generation, number, record):
        """Writes a record of this generation and number to its block."""
        self.disk.write(place_of(self.disk.many, generation, number), (generation, self.life, number) + record)


def write_head(disk, head):
    """Writes a head to its block."""
    disk.write(head[0] % 2, head)


def meant(disk):
    """The life, the base and the records that a disk means, without what waits."""
    need_disk(disk)
    blocks = disk.kept()
    head = head_of(blocks)
    return (head[1], head[4], tuple(records_of(blocks, head)))
