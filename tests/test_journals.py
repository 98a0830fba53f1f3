"""Journals: what lies on the disk, and what is meant, wherever fuses and cuts stop them."""

import itertools
import random

from fewvisits.disks import Disk
from fewvisits.errors import BadLog, BadNumber, BadValue, Full, Out
from fewvisits.journals import Journal, meant
from tests.naive import NO_INTEGERS, NO_LISTS, Odd, OwnInt, OwnList, plain
from tests.naive_disks import head_in, meaning
from tests.refusing import Refusing


class Told:
    """The writes and flushes of a journal, told plainly."""

    def __init__(self, disk):
        blocks = [disk.look(at) for at in range(disk.many)]
        self.many = disk.many
        self.version, life, self.generation, self.since, self.base = head_in(blocks)
        self.records = list(meaning(blocks)[2])
        self.life = life + 1
        self.version += 1

    def head(self):
        return (self.version % 2, (self.version, self.life, self.generation, self.since, self.base))

    def block(self, number, record):
        at = 2 + number + (self.many // 2 - 1 if self.generation % 2 else 0)
        return (at, (self.generation, self.life, number) + tuple(record))

    def up(self):
        return [self.head(), None]

    def put(self, record):
        self.records.append(tuple(record))
        return [self.block(len(self.records) - 1, record)]

    def sweep(self, base, records):
        self.generation += 1
        deeds = [self.block(number, record) for number, record in enumerate(records)] + [None]
        self.base, self.since, self.records = base, self.life, [tuple(record) for record in records]
        self.version += 1
        return deeds + [self.head(), None]


def does(disk, deeds):
    """Does writes and flushes to a disk."""
    for deed in deeds:
        if deed is None:
            disk.flush()
        else:
            disk.write(*deed)


def some_record(dice):
    return [dice.randrange(4) for _ in range(dice.randrange(6))]


def cut_at_random(dice, disk):
    marks = [dice.randrange(3) for _ in range(disk.waiting())]
    disk.cut([k for k, mark in enumerate(marks) if mark == 0], [k for k, mark in enumerate(marks) if mark == 1])


def copied(disk):
    """A disk in which the same blocks lie, and nothing waits."""
    other = Disk(disk.many)
    for at, block in enumerate(disk.kept()):
        other.write(at, block)
    other.flush()
    return other


class Journals(Refusing):

    def is_as(self, journal, told, sure):
        self.assertEqual((journal.life, journal.base, journal.records()), (told.life, told.base, tuple(told.records)))
        self.assertEqual((journal.sure, journal.room), (sure, told.many // 2 - 1 - len(told.records)))

    def test_random_blocks(self):
        for seed in range(150):
            dice = random.Random(seed)
            many = dice.choice([4, 5, 8, 9, 12])
            disk, other = Disk(many), Disk(many)
            for _ in range(dice.randint(1, 4)):
                journal, told = Journal(disk), Told(other)
                does(other, told.up())
                sure = len(told.records)
                for _ in range(dice.randrange(12)):
                    self.is_as(journal, told, sure)
                    self.assertEqual(disk.kept(), other.kept())
                    self.assertEqual([disk.look(at) for at in range(many)], [other.look(at) for at in range(many)])
                    self.assertEqual(meant(disk), meaning(other.kept()))
                    deed = dice.choice(["put", "put", "put", "force", "sweep"])
                    record = some_record(dice)
                    if deed == "put" and not journal.room:
                        self.refuses(Full("journal"), journal.put, record)
                    elif deed == "put":
                        self.assertIsNone(journal.put(record))
                        does(other, told.put(record))
                    elif deed == "force":
                        self.assertIsNone(journal.force())
                        other.flush()
                        sure = len(told.records)
                    else:
                        records = [some_record(dice) for _ in range(dice.randrange(many // 2 + 1))]
                        base = dice.randrange(-9, 9)
                        if len(records) > many // 2 - 1:
                            self.refuses(Full("journal"), journal.sweep, base, records)
                        else:
                            self.assertIsNone(journal.sweep(base, records))
                            does(other, told.sweep(base, records))
                            sure = len(records)
                self.is_as(journal, told, sure)
                state = dice.getstate()
                cut_at_random(dice, disk)
                dice.setstate(state)
                cut_at_random(dice, other)
                self.assertEqual(disk.kept(), other.kept())

    def test_what_always_holds(self):
        """Fuses at any write or flush, and cuts of any kind, on disks that are used well."""
        outs = 0
        for seed in range(600):
            dice = random.Random(seed)
            disk = Disk(dice.choice([4, 6, 8, 9]))
            ahead = [(0, 0, (), 0)]
            for _ in range(dice.randint(2, 6)):
                if dice.random() < 0.3:
                    disk.fuse(dice.randint(1, 2))
                try:
                    journal = Journal(disk)
                except Out:
                    outs += 1
                    cut_at_random(dice, disk)
                    life, base, records = meant(disk)
                    self.assertTrue(any(life in (old[0], old[0] + 1) and base == old[1] and len(records) >= old[3] and
                                        records == old[2][:len(records)] for old in ahead))
                    ahead = [(life, base, records, len(records))]
                    continue
                self.assertGreater(journal.life, max(old[0] for old in ahead))
                self.assertTrue(any(journal.base == old[1] and journal.records() == old[2][:len(journal.records())]
                                    and len(journal.records()) >= old[3] for old in ahead))
                states = [(journal.life, journal.base, journal.records(), journal.sure)]
                if dice.random() < 0.6:
                    disk.fuse(dice.randint(1, 9))
                try:
                    for _ in range(dice.randrange(9)):
                        states = self.one_deed(dice, journal)
                except Out:
                    outs += 1
                    states = self.states_behind_out(journal)
                cut_at_random(dice, disk)
                life, base, records = meant(disk)
                self.assertEqual(life, journal.life)
                self.assertTrue(any(base == told[1] and len(records) >= told[3] and records == told[2][:len(records)]
                                    for told in states), (states, base, records))
                ahead = [(life, base, records, len(records))]
        self.assertGreater(outs, 150)

    def one_deed(self, dice, journal):
        """Does something with the journal; tells what may be meant behind it."""
        self.swept = None
        deed = dice.choice(["put", "put", "force", "sweep"])
        if deed == "put" and journal.room:
            record = [dice.randrange(100)]
            self.swept = ("put", tuple(record))
            journal.put(record)
        elif deed == "force":
            journal.force()
        elif deed == "sweep":
            records = tuple((dice.randrange(100),) for _ in range(dice.randrange(journal.disk.many // 2)))
            self.swept = ("sweep", dice.randrange(100), records)
            journal.sweep(self.swept[1], records)
        self.swept = None
        return [(journal.life, journal.base, journal.records(), journal.sure)]

    def states_behind_out(self, journal):
        """What may be meant behind an Out: nothing of the journal's own changed by it."""
        found = [(journal.life, journal.base, journal.records(), journal.sure)]
        if self.swept and self.swept[0] == "sweep":
            found.append((journal.life, self.swept[1], self.swept[2], len(self.swept[2])))
        return found

    def test_a_fuse_at_each_step_of_a_sweep(self):
        # Two records swept: two writes, a flush, a head, a flush; behind each Out any cut.
        for many in range(1, 6):
            for marks in itertools.product(range(3), repeat=3):
                disk = Disk(8)
                journal = Journal(disk)
                journal.put([1])
                journal.force()
                journal.put([2])
                disk.fuse(many)
                self.refuses(Out(), journal.sweep, 7, [[3], [4]])
                lands = [k for k in range(disk.waiting()) if marks[k] == 1]
                torn = [k for k in range(disk.waiting()) if marks[k] == 2]
                disk.cut(lands, torn)
                found = meant(disk)
                self.assertEqual(found[0], 1)
                if many == 5 and marks[0] == 1:
                    self.assertEqual(found, (1, 7, ((3,), (4,))))
                else:
                    here = ((1,), (2,)) if many > 3 or marks[0] == 1 else ((1,),)
                    self.assertEqual(found, (1, 0, here))
                self.assertEqual(Journal(disk).life, 2)

    def test_a_fuse_as_it_comes_up(self):
        for many in (1, 2):
            for lands, torn in (((), ()), ((0,), ()), ((), (0,))):
                disk = Disk(6)
                journal = Journal(disk)
                journal.sweep(-3, [[1]])
                journal.put([])
                journal.force()
                disk.fuse(many)
                self.refuses(Out(), Journal, disk)
                self.assertEqual(disk.waiting(), many - 1)
                if many == 1:
                    lands = torn = ()
                disk.cut(lands, torn)
                self.assertEqual(meant(disk), (1 + len(lands), -3, ((1,), ())))
                again = Journal(disk)
                self.assertEqual((again.life, again.records(), again.sure), (2 + len(lands), ((1,), ()), 2))

    def test_out_of_a_put_and_of_a_force(self):
        disk = Disk(8)
        journal = Journal(disk)
        journal.put([1])
        disk.fuse(1)
        self.refuses(Out(), journal.put, [2])
        self.assertEqual((journal.records(), journal.sure, journal.room), (((1,),), 0, 2))
        self.refuses(Out(), journal.force)
        self.assertEqual((journal.records(), journal.sure, journal.room), (((1,),), 0, 2))

    def test_any_blocks(self):
        found = set()
        for seed in range(2500):
            dice = random.Random(seed)
            many = dice.choice([4, 5, 6, 8])
            disk = Disk(many)
            generation = dice.choice([0, 0, 1, 2])
            for at in range(many):
                choice = dice.randrange(5)
                block = [dice.randint(-1, 3) for _ in range(dice.randrange(9))]
                if at < 2 and choice:
                    block = [2 * dice.randrange(3) + at, dice.randrange(3), generation, dice.randrange(2), dice.randint(-2, 2)]
                    if choice == 4:
                        block[dice.randrange(4)] -= 1
                elif at >= 2 and choice:
                    number = (at - 2) % (many // 2 - 1)
                    block = [generation, dice.randint(0, 2), number] + [dice.randrange(5) for _ in range(dice.randrange(6))]
                disk.write(at, block)
            if dice.random() < 0.7:
                disk.flush()
            else:
                self.assertEqual(meant(disk), (0, 0, ()))
            self.assertEqual(meant(disk), meaning(disk.kept()))
            wanted = meaning([disk.look(at) for at in range(many)])
            found.add((wanted[0] > 0, len(wanted[2])))
            other, told = copied(disk) if disk.waiting() == 0 else None, Told(disk)
            journal = Journal(disk)
            self.assertEqual((journal.life, journal.base, journal.records()), (wanted[0] + 1,) + wanted[1:])
            self.assertEqual((journal.sure, journal.room), (len(wanted[2]), many // 2 - 1 - len(wanted[2])))
            if other:
                does(other, told.up())
                self.assertEqual(disk.kept(), other.kept())
        self.assertTrue(found >= {(True, 0), (True, 1), (True, 2), (False, 0), (False, 1)})

    def test_bounds(self):
        for many, room in ((4, 1), (5, 1), (6, 2), (7, 2), (255, 126), (256, 127)):
            disk = Disk(many)
            journal = Journal(disk=disk)
            self.assertIs(journal.disk, disk)
            for number in range(room):
                self.assertEqual(journal.room, room - number)
                journal.put([number, 10 ** 70, -1, 0, 5])
            before = disk.waiting()
            self.refuses(Full("journal"), journal.put, [1])
            self.refuses(BadNumber("record"), journal.put, [1] * 6)
            self.assertEqual((journal.room, disk.waiting()), (0, before))
            journal.force()
            self.assertEqual(journal.sure, room)
            told = [[k] for k in range(room)]
            self.refuses(Full("journal"), journal.sweep, 1, told + [[]])
            journal.sweep(1, told)
            self.assertEqual((journal.room, journal.sure, len(meant(disk)[2])), (0, room, room))
            journal.sweep(2)
            self.assertEqual((journal.room, journal.sure, journal.records()), (room, 0, ()))

    def test_errors(self):
        for value in (None, 8, Disk, Disk(4).kept(), Odd()):
            self.refuses(BadValue("disk"), Journal, value)
            self.refuses(BadValue("disk"), meant, value)
        self.assertEqual(meant(disk=Disk(4)), (0, 0, ()))
        disk = Disk(8)
        journal = Journal(disk)
        kept = disk.kept()
        disk.fuse(1)
        wrong = NO_LISTS + [[1] * 6, [True], [None], [1.0], [[1]], ["1"], [Odd()]]
        for record in wrong:
            self.refuses(BadNumber("record"), journal.put, record)
        for base in NO_INTEGERS:
            self.refuses(BadNumber("base"), journal.sweep, base)
            self.refuses(BadNumber("base"), journal.sweep, base, None)
        for records in NO_LISTS + [[record] for record in wrong] + [[[1], None]] + [[[]] * 9 + [[1.0]]]:
            self.refuses(BadLog("records"), journal.sweep, 0, records)
        self.refuses(Full("journal"), journal.sweep, 0, [[]] * 4)
        self.assertEqual((disk.kept(), disk.waiting(), journal.records(), journal.base), (kept, 0, (), 0))
        self.refuses(Out(), journal.put, [1])
        disk.no_fuse()
        self.assertIsNone(journal.sweep(records=[(1, 2)], base=-4))
        self.assertEqual(meant(disk), (1, -4, ((1, 2),)))

    def test_copies_and_no_classes_of_their_own(self):
        journal = Journal(Disk(8))
        record, records = [1], [[2], [3]]
        journal.put(record)
        record.append(9)
        self.assertEqual(journal.records(), ((1,),))
        journal.sweep(OwnInt(4), records)
        records[0].append(9)
        self.assertEqual(journal.records(), ((2,), (3,)))
        journal.put(OwnList([OwnInt(5)]))
        journal.force()
        for value in (journal.records(), (journal.base, journal.life, journal.room, journal.sure), meant(journal.disk),
                      journal.disk.kept()):
            self.assertTrue(plain(value))
        self.assertEqual(Journal(journal.disk).records(), ((2,), (3,), (5,)))
