"""The road, the map, what a disk means, and its top [5.1 to 5.3]."""

import random
import unittest

from laying import disk_with, drawn_disk, put_group, put_root
from reader import Reading
from support import STRANGE, blocks_of, caught, disk_state, pairs
from trailkeep.disk import Disk, place_at
from trailkeep.errors import BadDisk, NoRoot
from trailkeep.meaning import map_of, meaning, road, top_number
from trailkeep.roots import made

MOST = 10 ** 9
TOLD = (meaning, road, map_of)


class TestRoad(unittest.TestCase):
    def test_along_the_heads(self):
        disk = disk_with(size=(6, 8))
        self.assertEqual(road(disk), ())
        put_group(disk, (0, 0), 2, 0, 1, (3, 4))
        self.assertEqual(road(disk), ((0, 0, 2),))
        put_group(disk, (0, 3), 3, 2, 1, (), (3,))
        put_group(disk, (0, 4), 9, 3, 1, (1, 2))
        put_group(disk, (0, 7), 12, 9, 1, (), (1,))
        self.assertEqual(road(disk), ((0, 0, 2), (0, 3, 3), (0, 4, 9), (0, 7, 12)))

    def test_to_beyond(self):
        disk = disk_with()
        put_group(disk, (0, 0), 2, 0, 4, (3, 4))
        put_group(disk, (4, 0), 3, 2, 2, (3, 4))
        put_group(disk, (4, 3), 4, 3, 5, (), (3,))
        put_group(disk, (5, 0), 5, 4, 1, (0,))
        self.assertEqual(road(disk), ((0, 0, 2), (4, 0, 3), (4, 3, 4), (5, 0, 5)))

    def test_beyond_is_that_of_the_last_group(self):
        disk = disk_with()
        put_group(disk, (0, 0), 2, 0, 4, (3, 4))
        put_group(disk, (1, 0), 3, 2, 2, (3, 4))
        self.assertEqual(road(disk), ((0, 0, 2),))

    def test_the_head_comes_before_beyond(self):
        disk = disk_with()
        put_group(disk, (1, 0), 3, 0, 5)
        self.assertEqual(road(disk), ((1, 0, 3),))
        put_group(disk, (0, 0), 2, 0, 4)
        self.assertEqual(road(disk), ((0, 0, 2),))
        # At beyond only offset 0 counts.
        disk = disk_with()
        put_group(disk, (1, 1), 3, 0, 5)
        self.assertEqual(road(disk), ())

    def test_a_head_with_other_things(self):
        for other in ((0,) * 32, (2, 1) + (MOST,) * 29 + (2,), (2, 2) + (0,) * 29 + (2,), (2, 1) + (0,) * 30):
            disk = disk_with()
            put_group(disk, (1, 0), 3, 0, 5)
            disk.write(place_at(disk, 0, 0), other)
            self.assertEqual(road(disk), ((1, 0, 3),))

    def test_a_head_at_the_end_of_its_segment(self):
        disk = disk_with((0, 4), 3)
        # What stands at the beginning of the next segment is not at the head.
        put_group(disk, (1, 0), 2, 0, 5)
        self.assertEqual(road(disk), ())
        put_group(disk, (3, 0), 3, 0, 5)
        self.assertEqual(road(disk), ((3, 0, 3),))
        disk = disk_with((5, 4), 5)
        self.assertEqual(road(disk), ())
        put_group(disk, (5, 0), 2, 0, 5, (0, 1, 2))
        self.assertEqual(road(disk), ((5, 0, 2),))

    def test_ahead_has_to_be_the_last_number(self):
        for last, ahead, there in ((0, 0, True), (0, 1, False), (7, 7, True), (7, 6, False), (7, 8, False), (7, 0, False)):
            for stop in ((0, 0), (1, 0)):
                disk = disk_with(last=last)
                put_group(disk, stop, 9, ahead, 1)
                self.assertEqual(road(disk), ((*stop, 9),) if there else ())

    def test_numbers_have_to_increase(self):
        for last, number, there in ((7, 8, True), (7, 7, False), (7, 6, False), (7, 1, False), (7, MOST, True),
                                    (MOST, MOST, False), (0, 1, True)):
            for stop in ((0, 0), (1, 0)):
                disk = disk_with(last=last)
                put_group(disk, stop, number, last, 1)
                self.assertEqual(road(disk), ((*stop, number),) if there else ())

    def test_it_ends_where_it_leads_to_itself(self):
        disk = disk_with(last=5)
        put_group(disk, (0, 0), 6, 5, 0, (0, 1, 2))
        self.assertEqual(road(disk), ((0, 0, 6),))
        # Its own number as ahead.
        put_group(disk, (1, 0), 6, 6, 1, (0, 1, 2))
        put_group(disk, (0, 0), 6, 5, 1, (0, 1, 2))
        self.assertEqual(road(disk), ((0, 0, 6),))

    def test_a_segment_twice(self):
        """Beyond may be any segment, also one that the road has passed."""
        disk = disk_with((0, 2), 1)
        put_group(disk, (0, 2), 2, 0, 3)
        put_group(disk, (3, 0), 3, 2, 0, (0, 1, 2))
        put_group(disk, (0, 0), 4, 3, 3)
        self.assertEqual(road(disk), ((0, 2, 2), (3, 0, 3), (0, 0, 4)))

    def test_groups_from_before_a_lost_one(self):
        disk = disk_with(size=(6, 6))
        put_group(disk, (0, 0), 2, 0, 1)
        put_group(disk, (0, 2), 3, 2, 1)
        put_group(disk, (0, 4), 4, 3, 1)
        disk.cut((32, 32, 32, 32, 0, 32, 32))
        self.assertEqual(road(disk), ((0, 0, 2),))
        # A newer group in the place of the lost one does not lead to the one that was left over.
        put_group(disk, (0, 2), 5, 2, 1)
        self.assertEqual(road(disk), ((0, 0, 2), (0, 2, 5)))

    def test_waiting_and_standing(self):
        disk = disk_with()
        disk.force()
        put_group(disk, (0, 0), 2, 0, 1)
        self.assertEqual(road(disk), ((0, 0, 2),))
        other = disk.copied()
        other.cut(())
        self.assertEqual(road(other), ())
        disk.force()
        self.assertEqual(road(disk), ((0, 0, 2),))
        # A newer block that waits hides the one that stands.
        disk.write(place_at(disk, 0, 1), (0,) * 32)
        self.assertEqual(road(disk), ())

    def test_the_newer_root(self):
        disk = disk_with()
        put_root(disk, 1, 5, (2, 1), 3, 4)
        put_group(disk, (0, 0), 8, 0, 1)
        put_group(disk, (2, 1), 9, 4, 1)
        self.assertEqual(road(disk), ((2, 1, 9),))
        for number, expected in ((5, (0, 0, 8)), (6, (0, 0, 8)), (4, (2, 1, 9))):
            put_root(disk, 0, number)
            self.assertEqual(road(disk), (expected,))


class TestMap(unittest.TestCase):
    def test_puts_and_drops(self):
        disk = disk_with(size=(6, 8))
        first = place_at(disk, 0, 0)
        self.assertEqual([map_of(disk), meaning(disk)], [(), ()])
        put_group(disk, (0, 0), 2, 0, 1, (3, 7))
        self.assertEqual(map_of(disk), ((3, first + 1), (7, first + 2)))
        self.assertEqual(meaning(disk), pairs(3, 7, word=2))
        put_group(disk, (0, 3), 3, 2, 1, (5, 7), (3,))
        self.assertEqual(map_of(disk), ((5, first + 4), (7, first + 5)))
        self.assertEqual(meaning(disk), pairs(5, 7, word=3))
        # Dropped and put anew, and a drop of what is not living.
        put_group(disk, (0, 6), 4, 3, 1, (), (1, 5))
        self.assertEqual(map_of(disk), ((7, first + 5),))
        put_group(disk, (1, 0), 5, 4, 1, (3, 5), (7,))
        self.assertEqual(map_of(disk), ((3, first + 9), (5, first + 10)))
        self.assertEqual(meaning(disk), pairs(3, 5, word=5))

    def test_it_starts_with_the_places_of_the_root(self):
        disk = Disk(6, 4)
        put_root(disk, 0, 1, (0, 0), 1, 0, k0=2, k3=25, k5=14)
        disk.write(25, (7,) + tuple(range(100, 131)))
        self.assertEqual(map_of(disk), ((0, 2), (3, 25), (5, 14)))
        contents = (0,) * 28, tuple(range(102, 130)), (0,) * 28
        self.assertEqual(meaning(disk), tuple(zip((0, 3, 5), contents)))
        put_group(disk, (0, 0), 2, 0, 1, (3,), (0,))
        self.assertEqual(map_of(disk), ((3, 3), (5, 14)))
        put_root(disk, 1, 2, (0, 2), 1, 2, k1=9, k2=9)
        self.assertEqual(map_of(disk), ((1, 9), (2, 9)))

    def test_a_torn_group_has_no_part_in_it(self):
        for many in range(33):
            disk = disk_with()
            put_group(disk, (0, 0), 2, 0, 1, (0, 1))
            disk.force()
            put_group(disk, (0, 3), 3, 2, 1, (), (0,))
            disk.cut((many,))
            self.assertEqual(map_of(disk), ((0, 3), (1, 4)) if many < 32 else ((1, 4),))
        for keep in ((32, 32, 31), (32, 31, 32), (31, 32, 32), (0, 32, 32), (32, 32, 0), (32, 32), ()):
            disk = disk_with()
            disk.force()
            put_group(disk, (0, 0), 2, 0, 1, (0, 1))
            disk.cut(keep)
            self.assertEqual([road(disk), map_of(disk), meaning(disk)], [(), (), ()])

    def test_asking_changes_nothing(self):
        disk = disk_with()
        disk.force()
        put_group(disk, (0, 0), 2, 0, 1, (0, 1))
        disk.fuse(0)
        before = disk_state(disk)
        for call in TOLD + (top_number,):
            self.assertEqual(call(disk), call(disk=disk))
        self.assertEqual(disk_state(disk), before)


class TestTop(unittest.TestCase):
    def test_first_and_last_words(self):
        disk = Disk(6, 4)
        self.assertEqual(top_number(disk), 0)
        disk.write(25, (3,) + (MOST,) * 30 + (2,))
        self.assertEqual(top_number(disk), 3)
        disk.write(0, (3,) + (MOST,) * 30 + (5,))
        self.assertEqual(top_number(disk), 5)
        disk.write(12, (MOST,) + (0,) * 31)
        self.assertEqual(top_number(disk), MOST)
        self.assertEqual(top_number(made(6, 4)), 1)

    def test_waiting_and_torn(self):
        disk = made(6, 4)
        for many, expected in ((0, 1), (1, 9), (31, 9), (32, 9)):
            disk.write(7, (9,) + (0,) * 30 + (9,))
            self.assertEqual(top_number(disk), 9)
            disk.cut((many,))
            self.assertEqual(top_number(disk), expected)
        # A newer block that waits hides the one that stands.
        disk.write(7, (0,) * 32)
        self.assertEqual(top_number(disk), 1)


class TestWrongArguments(unittest.TestCase):
    def test_no_disk(self):
        for call in TOLD + (top_number,):
            for thing in STRANGE + (made(6, 4).standing(), road(made(6, 4))):
                if not isinstance(thing, Disk):
                    error = caught(call, thing)
                    self.assertIs(error.__class__, BadDisk)
                    self.assertIs(error.thing, thing)

    def test_no_root(self):
        disk = Disk(6, 4)
        for call in TOLD:
            error = caught(call, disk)
            self.assertIs(error.__class__, NoRoot)
            self.assertEqual(vars(error), {})
        put_group(disk, (0, 0), 2, 0, 1)
        put_root(disk, 0, 1, (6, 0))
        before = disk_state(disk)
        for call in TOLD:
            self.assertIs(caught(call, disk).__class__, NoRoot)
        self.assertEqual(top_number(disk), 2)
        self.assertEqual(disk_state(disk), before)


class TestRows(unittest.TestCase):
    def test_drawn_disks(self):
        longest = 0
        for seed in range(800):
            draw = random.Random(seed)
            disk, shape = drawn_disk(draw)
            for _ in range(2):
                told = Reading(shape, blocks_of(disk))
                self.assertEqual(road(disk), tuple(told.road), seed)
                self.assertEqual(map_of(disk), tuple(sorted(told.places.items())), seed)
                self.assertEqual(meaning(disk), told.meaning, seed)
                self.assertEqual(top_number(disk), told.top)
                longest = max(longest, len(told.road))
                # Once more behind a cut, if a root is left.
                keep = [draw.choice((0, 32, 32, 32, draw.randrange(33))) for _ in disk.waiting()]
                keep[:2 * shape.area] = [32] * 2 * shape.area
                disk.cut(tuple(keep))
        self.assertGreater(longest, 6)


if __name__ == "__main__":
    unittest.main()
