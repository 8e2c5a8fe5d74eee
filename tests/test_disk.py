"""Blocks, sizes, places, waiting and standing [2.1, 2.2]."""

import unittest

from support import STRANGE, bent, caught, disk_state
from trailkeep.disk import Disk, place_at
from trailkeep.errors import BadBlock, BadDisk, BadOffset, BadPlace, BadSegment, BadSize

BLANK = (0,) * 32
MOST = 10 ** 9

# Segments and blocks, and the N and R that follow from them.
SIZES = (
    (6, 4, 6, 1), (6, 24, 46, 2), (40, 4, 108, 4), (40, 24, 828, 30), (6, 13, 24, 1), (6, 12, 22, 1), (7, 9, 24, 1),
    (9, 6, 25, 2), (6, 15, 28, 2), (17, 5, 52, 2), (8, 14, 52, 2), (23, 17, 304, 11), (39, 23, 770, 28),
    (10, 12, 66, 3),
)


def block_of(word):
    return (word,) * 32


def is_size(thing, least, most):
    return type(thing) is int and least <= thing <= most


class TestSizes(unittest.TestCase):
    def test_sizes_and_places(self):
        for segments, blocks, keys, area in SIZES:
            disk = Disk(segments, blocks)
            self.assertEqual(disk.sizes(), (segments, blocks, keys, area))
            self.assertEqual(disk.many(), 2 * area + segments * blocks)
            self.assertEqual(disk.standing(), (BLANK,) * disk.many())
            self.assertEqual(disk.waiting(), ())
            self.assertEqual(place_at(disk, 0, 0), 2 * area)
            self.assertEqual(place_at(disk, 0, blocks - 1), 2 * area + blocks - 1)
            self.assertEqual(place_at(disk, 1, 0), 2 * area + blocks)
            self.assertEqual(place_at(disk, segments - 1, blocks - 1), disk.many() - 1)

    def test_all_sizes(self):
        for segments in range(6, 41):
            for blocks in range(4, 25):
                keys = (segments - 4) * (blocks - 1)
                area = min(many for many in range(99) if 28 * many >= keys + 4)
                self.assertEqual(Disk(segments, blocks).sizes(), (segments, blocks, keys, area))

    def test_all_places_once(self):
        disk = Disk(7, 5)
        places = [place_at(disk, segment, offset) for segment in range(7) for offset in range(5)]
        self.assertEqual(places, list(range(2, 37)))
        self.assertEqual(disk.many(), 37)

    def test_by_name(self):
        disk = Disk(blocks=4, segments=6)
        self.assertEqual(disk.sizes(), (6, 4, 6, 1))
        self.assertEqual(place_at(offset=3, segment=2, disk=disk), 13)
        self.assertIsNone(disk.write(block=block_of(3), place=1))
        self.assertEqual(disk.read(place=1), block_of(3))

    def test_the_first_wrong_size(self):
        wrong_segments = [thing for thing in STRANGE + (5, 41, 0, "6", (6,)) if not is_size(thing, 6, 40)]
        wrong_blocks = [thing for thing in STRANGE + (3, 25, 0, "4", (4,)) if not is_size(thing, 4, 24)]
        for thing in wrong_segments:
            for blocks in (4, 24, 3, 25, None, thing):
                error = caught(Disk, thing, blocks)
                self.assertIs(error.__class__, BadSize)
                self.assertIs(error.thing, thing)
        for thing in wrong_blocks:
            for segments in (6, 40):
                error = caught(Disk, blocks=thing, segments=segments)
                self.assertIs(error.__class__, BadSize)
                self.assertIs(error.thing, thing)


class TestPlaceAt(unittest.TestCase):
    def test_the_first_wrong_argument(self):
        disk = Disk(6, 4)
        for thing in STRANGE:
            if not isinstance(thing, Disk):
                for segment, offset in ((0, 0), (None, None), (-1, 4)):
                    error = caught(place_at, thing, segment, offset)
                    self.assertIs(error.__class__, BadDisk)
                    self.assertIs(error.thing, thing)
        for thing in (-1, 6, 10 ** 40 - 1, True, False, None, "0", (), (0,), [0], {}, disk):
            for offset in (0, -1, None):
                error = caught(place_at, disk, thing, offset)
                self.assertIs(error.__class__, BadSegment)
                self.assertIs(error.thing, thing)
        for thing in (-1, 4, 10 ** 40 - 1, True, False, None, "0", (), (0,), [0], {}, disk):
            error = caught(place_at, disk, 5, thing)
            self.assertIs(error.__class__, BadOffset)
            self.assertIs(error.thing, thing)

    def test_the_bounds_are_those_of_the_disk(self):
        for segments, blocks in ((6, 4), (40, 24), (9, 17)):
            disk = Disk(segments, blocks)
            self.assertIs(caught(place_at, disk, segments, 0).__class__, BadSegment)
            self.assertIs(caught(place_at, disk, segments - 1, blocks).__class__, BadOffset)
            self.assertIsNone(caught(place_at, disk, segments - 1, blocks - 1))


class TestWaiting(unittest.TestCase):
    def test_a_write_waits_until_it_is_forced(self):
        disk = Disk(6, 4)
        self.assertIsNone(disk.write(7, block_of(1)))
        self.assertEqual(disk.read(7), block_of(1))
        self.assertEqual(disk.waiting(), ((7, block_of(1)),))
        self.assertEqual(disk.standing(), (BLANK,) * 26)
        self.assertIsNone(disk.force())
        self.assertEqual(disk.read(7), block_of(1))
        self.assertEqual(disk.waiting(), ())
        self.assertEqual(disk.standing(), (BLANK,) * 7 + (block_of(1),) + (BLANK,) * 18)

    def test_several_writes_to_one_place(self):
        disk = Disk(6, 4)
        rows = ((0, 1), (25, 2), (0, 3), (25, 4), (0, 5), (3, 6))
        for place, word in rows:
            disk.write(place, block_of(word))
            self.assertEqual(disk.read(place), block_of(word))
        self.assertEqual(disk.waiting(), tuple((place, block_of(word)) for place, word in rows))
        self.assertEqual(disk.standing(), (BLANK,) * 26)
        disk.force()
        self.assertEqual([disk.read(place)[0] for place in (0, 3, 25)], [5, 6, 4])
        # The newest block is read again while an older one stands.
        disk.write(0, BLANK)
        self.assertEqual(disk.read(0), BLANK)
        self.assertEqual(disk.standing()[0], block_of(5))
        disk.write(0, block_of(MOST))
        self.assertEqual(disk.read(0), block_of(MOST))
        disk.force()
        self.assertEqual(disk.standing()[0], block_of(MOST))

    def test_forcing_nothing(self):
        disk = Disk(6, 4)
        self.assertIsNone(disk.force())
        self.assertEqual(disk_state(disk), disk_state(Disk(6, 4)))

    def test_what_was_returned_stays_as_it_was(self):
        disk = Disk(6, 4)
        disk.write(0, block_of(1))
        waiting, standing = disk.waiting(), disk.standing()
        disk.write(1, block_of(2))
        disk.force()
        self.assertEqual(waiting, ((0, block_of(1)),))
        self.assertEqual(standing, (BLANK,) * 26)


class TestWrongArguments(unittest.TestCase):
    def setUp(self):
        self.disk = Disk(6, 4)
        self.disk.write(5, block_of(1))
        self.disk.force()
        self.disk.write(6, block_of(2))
        self.before = disk_state(self.disk)

    def raised(self, made, thing, call, *parts):
        error = caught(call, *parts)
        self.assertIs(error.__class__, made, thing)
        self.assertIs(error.thing, thing)
        self.assertEqual(disk_state(self.disk), self.before)

    def test_places(self):
        right = [thing for thing in STRANGE if is_size(thing, 0, 25)]
        self.assertEqual(right, [])
        for thing in STRANGE + (26, 27, "5", (5,), [5]):
            self.raised(BadPlace, thing, self.disk.read, thing)
            for block in (BLANK, None, (0,) * 31):
                self.raised(BadPlace, thing, self.disk.write, thing, block)

    def test_blocks(self):
        wrong = [(0,) * 31, (0,) * 33, (0,) * 31 + (-1,), (0,) * 31 + (MOST + 1,), (True,) * 32, (False,) + (0,) * 31,
                 list(BLANK), "0" * 32, (0,) * 16 + (None,) + (0,) * 15, (BLANK,), (BLANK,) * 32, ((0,),) * 32]
        wrong.extend([thing for thing in STRANGE if thing != BLANK])
        wrong.extend(bent(tuple(range(32))))
        for thing in wrong:
            self.raised(BadBlock, thing, self.disk.write, 5, thing)

    def test_right_blocks(self):
        for block in (BLANK, block_of(MOST), tuple(range(32)), tuple(range(MOST, MOST - 32, -1))):
            for place in (0, 25):
                self.disk.write(place, block)
                self.assertEqual(self.disk.read(place), block)


class TestEquality(unittest.TestCase):
    def test_a_disk_is_equal_only_to_itself(self):
        disk = Disk(6, 4)
        self.assertEqual(disk, disk)
        for other in (Disk(6, 4), disk.copied(), None, (6, 4), disk.standing()):
            self.assertNotEqual(disk, other)


if __name__ == "__main__":
    unittest.main()
