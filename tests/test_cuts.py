"""Cuts, fuses and copies of disks [2.3, 2.4]."""

import random
import unittest

from support import STRANGE, bent, caught, disk_state
from trailkeep.disk import Disk
from trailkeep.errors import BadBlock, BadCut, BadNumber, BadPlace, PowerCut

BLANK = (0,) * 32


def block_of(word):
    return (word,) * 32


def torn(old, new, many):
    return new[:many] + old[many:]


def disk_with(*rows):
    """A disk on which the pairs of a place and a word wait; at each place stood a block of nines."""
    disk = Disk(6, 4)
    for place, _ in rows:
        disk.write(place, block_of(9))
    disk.force()
    for place, word in rows:
        disk.write(place, block_of(word))
    return disk


class TestCuts(unittest.TestCase):
    def test_lose_keep_and_tear(self):
        for many in range(33):
            disk = disk_with((4, 1))
            self.assertIsNone(disk.cut((many,)))
            self.assertEqual(disk.read(4), torn(block_of(9), block_of(1), many))
            self.assertEqual(disk.standing()[4], disk.read(4))
            self.assertEqual(disk.waiting(), ())

    def test_each_write_takes_its_integer(self):
        disk = disk_with((4, 1), (0, 2), (25, 3))
        disk.cut(keep=(32, 0, 7))
        self.assertEqual(disk.read(4), block_of(1))
        self.assertEqual(disk.read(0), block_of(9))
        self.assertEqual(disk.read(25), torn(block_of(9), block_of(3), 7))

    def test_shorter_keeps(self):
        for keep in ((), (32,), (5, 32)):
            disk = disk_with((4, 1), (0, 2), (25, 3))
            disk.cut(keep)
            many = keep + (0,) * 3
            for (place, word), left in zip(((4, 1), (0, 2), (25, 3)), many):
                self.assertEqual(disk.read(place), torn(block_of(9), block_of(word), left))
            self.assertEqual(disk.waiting(), ())

    def test_longer_keeps(self):
        disk = disk_with((4, 1))
        disk.cut((3,) + (32,) * 500)
        standing = list((BLANK,) * 26)
        standing[4] = torn(block_of(9), block_of(1), 3)
        self.assertEqual(disk.standing(), tuple(standing))

    def test_several_writes_to_one_place(self):
        for keep, words in (((32, 2, 1), (3, 2, 1, 1)), ((0, 0, 0), (9, 9, 9, 9)), ((3, 2, 1), (3, 2, 1, 9)),
                            ((1, 2, 3), (3, 3, 3, 9)), ((32, 0, 1), (3, 1, 1, 1)), ((1, 32, 0), (2, 2, 2, 2)),
                            ((2, 1), (2, 1, 9, 9)), ((0, 0, 32), (3, 3, 3, 3)), ((3, 0, 0), (1, 1, 1, 9))):
            disk = disk_with((4, 1), (4, 2), (4, 3))
            disk.cut(keep)
            self.assertEqual(disk.read(4)[:4], words)
        disk = disk_with((4, 1), (4, 2), (4, 3))
        disk.cut((5, 3, 1))
        self.assertEqual(disk.read(4), (3, 2, 2, 1, 1) + (9,) * 27)

    def test_without_waiting_writes_nothing_changes(self):
        disk = disk_with((4, 1))
        disk.force()
        before = disk_state(disk)
        for keep in ((), (32, 32), (5,)):
            disk.cut(keep)
            self.assertEqual(disk_state(disk), before)

    def test_after_a_cut_the_disk_goes_on(self):
        disk = disk_with((4, 1), (5, 2))
        disk.cut((31,))
        disk.write(5, block_of(7))
        self.assertEqual(disk.waiting(), ((5, block_of(7)),))
        disk.force()
        self.assertEqual([disk.read(4)[30], disk.read(4)[31], disk.read(5)], [1, 9, block_of(7)])

    def test_wrong_keeps(self):
        disk = disk_with((4, 1), (5, 2))
        disk.fuse(0)
        before = disk_state(disk)
        wrong = [(33,), (-1,), (0, 33), (32, -1), (0,) * 2999 + (33,), (True,), (0, False), [0], [], (None,), ("0",),
                 ((0,),), 0, 32, "", "00", None, {}, {0: 1}, (0, [1]), (10 ** 40 - 1,)]
        wrong.extend([thing for thing in STRANGE if thing not in ((), (0,) * 3000, (9,) * 28)])
        wrong.extend(bent((0, 1, 32)))
        for thing in wrong:
            error = caught(disk.cut, thing)
            self.assertIs(error.__class__, BadCut, thing)
            self.assertIs(error.thing, thing)
            self.assertEqual(disk_state(disk), before)
        # The fuse is still there, too.
        self.assertIs(caught(disk.force).__class__, PowerCut)


class TestFuses(unittest.TestCase):
    def test_so_many_more_calls(self):
        for many in range(6):
            disk = Disk(6, 4)
            self.assertIsNone(disk.fuse(many))
            for at in range(many):
                if at % 3 == 2:
                    self.assertIsNone(disk.force())
                else:
                    self.assertIsNone(disk.write(at, block_of(at + 1)))
            before = disk_state(disk)
            for _ in range(3):
                self.assertIs(caught(disk.force).__class__, PowerCut)
                self.assertIs(caught(disk.write, 0, block_of(9)).__class__, PowerCut)
                self.assertEqual(disk_state(disk), before)

    def test_reading_goes_on_and_does_not_count(self):
        disk = disk_with((4, 1))
        disk.fuse(1)
        for _ in range(3):
            self.assertEqual(disk.read(4), block_of(1))
            disk_state(disk)
            disk.copied()
        disk.write(5, block_of(2))
        self.assertIs(caught(disk.write, 5, block_of(3)).__class__, PowerCut)
        self.assertEqual(disk.read(5), block_of(2))
        self.assertEqual(disk.waiting(), ((4, block_of(1)), (5, block_of(2))))
        self.assertEqual(disk.standing()[4], block_of(9))

    def test_one_in_place_of_another(self):
        disk = Disk(6, 4)
        disk.fuse(5)
        disk.fuse(many=1)
        disk.force()
        self.assertIs(caught(disk.force).__class__, PowerCut)
        disk.fuse(2)
        disk.force()
        disk.write(0, block_of(1))
        self.assertIs(caught(disk.force).__class__, PowerCut)
        disk.fuse(0)
        self.assertIs(caught(disk.force).__class__, PowerCut)
        disk.fuse(10 ** 40 - 1)
        self.assertIsNone(disk.force())
        self.assertEqual(disk.standing()[0], block_of(1))

    def test_a_cut_removes_it(self):
        for many in (0, 2):
            disk = disk_with((4, 1))
            disk.fuse(many)
            disk.cut((32,))
            for at in range(9):
                self.assertIsNone(disk.write(at, block_of(at)))
                self.assertIsNone(disk.force())
            self.assertEqual(disk.read(8), block_of(8))

    def test_a_call_with_wrong_arguments_does_not_count(self):
        disk = Disk(6, 4)
        disk.fuse(1)
        for place, block, made in ((26, BLANK, BadPlace), (0, (0,), BadBlock), (None, None, BadPlace)):
            self.assertIs(caught(disk.write, place, block).__class__, made)
        self.assertIsNone(disk.write(0, block_of(1)))
        for place, block, made in ((26, BLANK, BadPlace), (0, (0,), BadBlock), (0, BLANK, PowerCut)):
            self.assertIs(caught(disk.write, place, block).__class__, made)
        self.assertEqual(disk.waiting(), ((0, block_of(1)),))

    def test_wrong_numbers(self):
        disk = Disk(6, 4)
        disk.fuse(1)
        wrong = [thing for thing in STRANGE if not (type(thing) is int and thing >= 0)]
        for thing in wrong + [-1, True, False, "1", (1,), [1]]:
            error = caught(disk.fuse, thing)
            self.assertIs(error.__class__, BadNumber, thing)
            self.assertIs(error.thing, thing)
        # The fuse before is still there.
        self.assertIsNone(disk.force())
        self.assertIs(caught(disk.force).__class__, PowerCut)

    def test_power_cut_has_no_attributes(self):
        disk = Disk(6, 4)
        disk.fuse(0)
        self.assertEqual(vars(caught(disk.force)), {})


class TestCopies(unittest.TestCase):
    def test_a_copy_has_the_same_blocks_and_no_fuse(self):
        disk = disk_with((4, 1), (5, 2), (4, 3))
        disk.fuse(0)
        other = disk.copied()
        self.assertIs(other.__class__, Disk)
        self.assertEqual(disk_state(other), disk_state(disk))
        self.assertEqual(other.read(4), block_of(3))
        self.assertIsNone(other.force())
        self.assertEqual(other.standing()[4:6], (block_of(3), block_of(2)))
        self.assertIs(caught(disk.force).__class__, PowerCut)

    def test_each_disk_goes_its_own_way(self):
        disk = disk_with((4, 1), (5, 2))
        other = disk.copied()
        before = disk_state(disk)
        other.write(6, block_of(7))
        other.cut((32, 5, 32))
        other.write(4, block_of(8))
        other.fuse(0)
        self.assertEqual(disk_state(disk), before)
        after = disk_state(other)
        disk.write(4, block_of(6))
        self.assertEqual(disk.read(4), block_of(6))
        disk.force()
        self.assertEqual(disk_state(other), after)
        self.assertEqual(other.read(4), block_of(8))
        self.assertIs(caught(other.force).__class__, PowerCut)

    def test_copies_of_all_sizes(self):
        for segments, blocks in ((6, 4), (40, 24), (11, 7)):
            disk = Disk(segments, blocks)
            disk.write(disk.many() - 1, block_of(5))
            disk.force()
            self.assertEqual(disk_state(disk.copied()), disk_state(disk))


class TestRows(unittest.TestCase):
    def test_rows_of_calls(self):
        """Long rows of calls beside a list of standing blocks and a list of waiting writes."""
        for seed in range(30):
            draw = random.Random(seed)
            disk, standing, waiting = Disk(6, 4), [BLANK] * 26, []
            for at in range(150):
                luck = draw.random()
                if luck < 0.75:
                    write = (draw.randrange(26) % draw.choice((3, 26)), tuple(draw.randrange(5) for _ in range(32)))
                    disk.write(*write)
                    waiting.append(write)
                else:
                    keep = tuple(draw.choice((0, 32, draw.randrange(33))) for _ in range(draw.randrange(12)))
                    many = keep + (0,) * len(waiting)
                    if luck < 0.85:
                        many = (32,) * len(waiting)
                        disk.force()
                    else:
                        disk.cut(keep)
                    for (place, block), left in zip(waiting, many):
                        standing[place] = torn(standing[place], block, left)
                    waiting = []
                if at % 20 == 19:
                    disk = disk.copied()
                self.assertEqual(disk.waiting(), tuple(waiting))
                self.assertEqual(disk.standing(), tuple(standing))
                newest = dict(waiting)
                for place in range(26):
                    self.assertEqual(disk.read(place), newest.get(place, standing[place]))


if __name__ == "__main__":
    unittest.main()
