"""Disks: what waits, what lands, and the plug."""

import itertools
import random

from fewvisits.disks import Disk
from fewvisits.errors import BadLot, BadNumber, Misfit, Out
from tests.naive import NO_INTEGERS, NO_LISTS, Odd, OwnInt, OwnList, plain
from tests.naive_disks import landed, reads
from tests.refusing import Refusing


class Disks(Refusing):

    def is_as(self, disk, done, many):
        lying, waiting = landed(done, many)
        self.assertEqual(disk.kept(), tuple(lying))
        self.assertEqual(disk.waiting(), len(waiting))
        self.assertEqual([disk.look(at) for at in range(many)], [reads(done, many, at) for at in range(many)])

    def test_random(self):
        outs = 0
        for seed in range(150):
            dice = random.Random(seed)
            many = dice.choice([4, 5, 6, 256] if seed % 20 == 0 else [4, 5])
            disk, done, left = Disk(many), [], None
            for _ in range(40):
                deed = dice.choice(["write", "write", "write", "flush", "cut", "fuse", "no_fuse"])
                wanted = None
                if deed == "write":
                    at, block = dice.randrange(min(many, 6)), tuple(dice.randrange(9) for _ in range(dice.randrange(9)))
                    deed = ("write", at, block)
                    call = (disk.write, at, list(block) if dice.random() < 0.5 else block)
                elif deed == "flush":
                    deed = ("flush",)
                    call = (disk.flush,)
                elif deed == "cut":
                    numbers = [dice.randrange(3) for _ in range(disk.waiting())]
                    deed = ("cut",) + tuple(tuple(k for k, told in enumerate(numbers) if told == mark) for mark in (0, 1))
                    call = (disk.cut, list(deed[1]), deed[2])
                    left = None
                elif deed == "fuse":
                    left = dice.randint(1, 4)
                    self.assertIsNone(disk.fuse(left))
                    continue
                else:
                    left = None
                    self.assertIsNone(disk.no_fuse())
                    continue
                if deed[0] != "cut" and left is not None:
                    left = max(1, left)
                    wanted = Out() if left == 1 else None
                    left = left if left == 1 else left - 1
                if wanted is not None:
                    outs += 1
                    self.refuses(wanted, *call)
                else:
                    self.assertIsNone(call[0](*call[1:]))
                    done.append(deed)
                self.is_as(disk, done, many)
        self.assertGreater(outs, 200)

    def test_any_lot_landing_or_torn(self):
        writes = [(0, (1,)), (1, ()), (0, (2,)), (0, (3, 4)), (3, (5,))]
        for marks in itertools.product(range(3), repeat=len(writes)):
            disk = Disk(4)
            disk.write(0, [8])
            disk.write(1, [9])
            disk.flush()
            for at, block in writes:
                disk.write(at, block)
            lands = [k for k, mark in enumerate(marks) if mark == 1]
            torn = [k for k, mark in enumerate(marks) if mark == 2]
            disk.cut(lands, torn)
            done = [("write", 0, (8,)), ("write", 1, (9,)), ("flush",)] + [("write",) + deed for deed in writes]
            self.is_as(disk, done + [("cut", lands, torn)], 4)

    def test_many_blocks(self):
        for many in (4, 5, 255, 256, OwnInt(256)):
            disk = Disk(many)
            self.assertEqual(disk.many, int(many))
            self.assertIs(type(disk.many), int)
            self.assertEqual(disk.kept(), ((),) * many)
            disk.write(many - 1, list(range(8)))
            self.assertEqual(disk.look(many - 1), tuple(range(8)))
            self.refuses(BadNumber("at"), disk.write, many, [])
            self.refuses(BadNumber("at"), disk.look, many)
        self.assertEqual(Disk(many=4).many, 4)
        for many in NO_INTEGERS + [3, 0, -4, 257, 10 ** 30]:
            self.refuses(BadNumber("many"), Disk, many)

    def test_fuses(self):
        disk = Disk(4)
        for many in NO_INTEGERS + [0, -1]:
            self.refuses(BadNumber("many"), disk.fuse, many)
        disk.fuse(1)
        self.refuses(Out(), disk.write, 0, [1])
        self.refuses(Out(), disk.flush)
        self.assertEqual((disk.waiting(), disk.look(0)), (0, ()))
        disk.fuse(many=2)
        disk.write(0, [1])
        for _ in range(3):
            self.refuses(Out(), disk.flush)
            self.refuses(Out(), disk.write, 0, [2])
        self.assertEqual((disk.waiting(), disk.look(0), disk.kept()[0]), (1, (1,), ()))
        disk.no_fuse()
        disk.write(0, [3])
        disk.fuse(1)
        disk.cut([1], torn=[0])
        self.assertEqual(disk.kept()[0], (3,))
        disk.write(0, [4])
        disk.flush()
        # A fuse of a great number is none for long, and a lesser one takes its place.
        disk.fuse(10 ** 50)
        disk.flush()
        disk.fuse(3)
        disk.fuse(2)
        disk.flush()
        self.refuses(Out(), disk.flush)
        disk.cut([])
        disk.flush()

    def test_errors_come_ahead_of_out_and_do_not_count(self):
        disk = Disk(4)
        disk.fuse(2)
        for at in NO_INTEGERS + [-1, 4]:
            self.refuses(BadNumber("at"), disk.write, at, [1])
            self.refuses(BadNumber("at"), disk.write, at, None)
            self.refuses(BadNumber("at"), disk.look, at)
        wrong = NO_LISTS + [[1] * 9, [True], [1, None], [1.0], [[1]], ["1"], [Odd()]]
        for block in wrong:
            self.refuses(BadNumber("block"), disk.write, 3, block)
        self.assertEqual((disk.waiting(), disk.kept()), (0, ((),) * 4))
        disk.write(block=[-5, 10 ** 70] + [0] * 6, at=3)
        self.refuses(BadNumber("at"), disk.write, 4, [1])
        self.refuses(BadNumber("block"), disk.write, 3, [1] * 9)
        self.refuses(Out(), disk.write, 3, [1])
        for block in wrong:
            self.refuses(BadNumber("block"), disk.write, 3, block)

    def test_cuts(self):
        disk = Disk(4)
        for many in range(3):
            for value in NO_LISTS + [[many], [0, 0], [1, 0], [-1], [True], [0.0], ["0"], [Odd()]]:
                self.refuses(BadLot("lands"), disk.cut, value)
                self.refuses(BadLot("lands"), disk.cut, value, value)
                self.refuses(BadLot("torn"), disk.cut, [], value)
            self.assertEqual(disk.waiting(), many)
            disk.write(many, [many])
        disk.fuse(1)
        for lands, torn in (([0], [0]), ([0, 2], [1, 2]), ((1,), (1,))):
            self.refuses(Misfit("torn"), disk.cut, lands, torn)
        self.assertEqual((disk.waiting(), disk.look(2)), (3, (2,)))
        # The fuse is still in.
        self.refuses(Out(), disk.flush)
        self.assertIsNone(disk.cut(torn=[1], lands=OwnList([OwnInt(2)])))
        self.assertEqual(disk.kept(), ((), (), (2,), ()))
        self.assertEqual([disk.look(at) for at in range(4)], [(), (), (2,), ()])

    def test_copies_and_no_classes_of_their_own(self):
        disk = Disk(4)
        block = [1, 2]
        disk.write(0, block)
        block.append(3)
        self.assertEqual(disk.look(0), (1, 2))
        disk.write(OwnInt(1), OwnList([OwnInt(7)]))
        disk.flush()
        self.assertTrue(plain(disk.kept()))
        self.assertTrue(plain(disk.look(1)))
        kept = disk.kept()
        disk.write(0, [9])
        disk.flush()
        self.assertEqual(kept[0], (1, 2))
