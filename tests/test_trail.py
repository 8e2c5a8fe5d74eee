"""Trails: mounting, segments, putting, forcing and roots [6.1 to 6.5]."""

import random
import unittest

from laying import disk_with, drawn_disk, put_group, put_root
from reader import Reading, Shape, Trailing, data, group_blocks, root_blocks, summary
from support import STRANGE, blocks_of, caught, content, disk_state, pairs, trail_state, watched
from tandem import tandem
from trailkeep.disk import Disk, place_at
from trailkeep.errors import BadDisk, NoRoot, PowerCut
from trailkeep.meaning import map_of, meaning, road, top_number
from trailkeep.roots import made, newer_root
from trailkeep.trail import Trail


class TestMounting(unittest.TestCase):
    def test_a_new_disk(self):
        trail = Trail(disk=made(6, 4))
        states = ("current", "beyond") + ("free",) * 4
        self.assertEqual(trail_state(trail), ((), (0, 0), 1, 0, 2, (0,) * 6, states, ()))

    def test_all_that_the_disk_tells(self):
        disk = Disk(7, 6)
        start = place_at(disk, 0, 0)
        put_root(disk, 1, 4, (3, 2), 5, 7, k0=start + 1, k2=start + 2, k3=start + 35, k4=start + 20)
        put_group(disk, (3, 2), 9, 7, 5, (5,), (2,))
        put_group(disk, (5, 0), 10, 9, 2, (0, 1, 2), ())
        disk.write(start + 35, (77,) + tuple(range(30)) + (0,))
        trail = Trail(disk)
        self.assertEqual(trail.living(), (0, 1, 2, 3, 4, 5))
        self.assertEqual(trail.read(3), tuple(range(2, 30)))
        self.assertEqual([trail.place_of(key) - start for key in range(6)], [31, 32, 33, 35, 20, 21])
        self.assertEqual([trail.head(), trail.beyond(), trail.last(), trail.next_number()], [(5, 4), 2, 10, 78])
        self.assertEqual(trail.uses(), (0, 0, 0, 2, 0, 4, 0))
        self.assertEqual(trail.states(), ("closed", "free", "beyond", "closed", "free", "current", "free"))

    def test_it_writes_nothing(self):
        disk = watched(disk_with())
        put_group(disk, (0, 0), 2, 0, 1, (0, 1))
        disk.fuse(0)
        disk.told()
        before = disk_state(disk)
        states = [trail_state(Trail(disk)) for _ in range(3)]
        self.assertEqual(states, states[:1] * 3)
        self.assertEqual(disk.told(), [])
        self.assertEqual(disk_state(disk), before)
        self.assertIs(caught(disk.force).__class__, PowerCut)

    def test_at_any_moment(self):
        """With waiting writes, behind a force, and on a copy."""
        disk = disk_with()
        put_group(disk, (0, 0), 2, 0, 1, (0, 1))
        told = trail_state(Trail(disk))
        copy = disk.copied()
        self.assertEqual(trail_state(Trail(copy)), told)
        disk.force()
        self.assertEqual(trail_state(Trail(disk)), told)
        self.assertEqual(told[:5], ((0, 1), (0, 3), 1, 2, 3))

    def test_the_next_number(self):
        """One more than the top, whatever else the block has, and behind cuts."""
        disk = made(6, 4)
        for many, expected in ((0, 2), (1, 10), (31, 10)):
            disk.write(20, (9,) + (0,) * 31)
            disk.cut((many,))
            self.assertEqual(Trail(disk).next_number(), expected)
        trail = Trail(made(6, 4))
        trail.put(pairs(0, 1), ())
        for keep, expected in (((), 2), ((0, 0, 0), 2), ((0, 0, 1), 3), ((32, 32, 32), 3), ((5,), 3)):
            disk = trail.disk().copied()
            disk.cut(keep)
            self.assertEqual(Trail(disk).next_number(), expected)
            self.assertEqual(Trail(disk).last(), 2 if keep == (32, 32, 32) else 0)

    def test_drawn_disks(self):
        """Disks that no trail has written, too, tell what the document says about mounting."""
        for seed in range(300):
            disk, shape = drawn_disk(random.Random(seed))
            model = Trailing(shape.segments, shape.blocks, blocks_of(disk))
            before = disk_state(disk)
            trail = Trail(disk)
            if trail.head()[0] != trail.beyond():
                self.assertEqual(trail_state(trail), model.told(), seed)
            self.assertEqual(trail_state(trail)[:6], model.told()[:6], seed)
            self.assertEqual([(key, trail.read(key)) for key in trail.living()],
                             list(Reading(shape, model.blocks).meaning))
            self.assertEqual(disk_state(disk), before)

    def test_no_disk_and_no_root(self):
        for thing in STRANGE + (made(6, 4).standing(),):
            if not isinstance(thing, Disk):
                error = caught(Trail, thing)
                self.assertIs(error.__class__, BadDisk)
                self.assertIs(error.thing, thing)
        for disk in (Disk(6, 4), Disk(40, 24), made(6, 4)):
            disk.write(0, (0,) * 32)
            before = disk_state(disk)
            error = caught(Trail, disk)
            self.assertIs(error.__class__, NoRoot)
            self.assertEqual(vars(error), {})
            self.assertEqual(disk_state(disk), before)

    def test_equal_only_to_itself(self):
        disk = made(6, 4)
        trail = Trail(disk)
        self.assertEqual(trail, trail)
        self.assertIs(trail.disk(), disk)
        for other in (Trail(disk), disk, None, ()):
            self.assertNotEqual(trail, other)


class TestPutting(unittest.TestCase):
    def test_each_write(self):
        disk = watched(made(6, 4))
        start = place_at(disk, 0, 0)
        trail = Trail(disk)
        self.assertIsNone(trail.put(puts=((1, content(8)), (4, content(9))), drops=()))
        self.assertEqual(disk.told(), [(start, summary(2, 0, 1, (1, 4), ())), (start + 1, data(2, 1, content(8))),
                                       (start + 2, data(2, 4, content(9)))])
        trail.put((), (1,))
        self.assertEqual(disk.told(), [(start + 3, summary(3, 2, 1, (), (1,)))])
        self.assertEqual([trail.head(), trail.beyond(), trail.last(), trail.next_number()], [(0, 4), 1, 3, 4])
        # The head is at the end of its segment: even a drop alone does not fit there.
        trail.put((), (4,))
        self.assertEqual(disk.told(), [(start + 4, summary(4, 3, 2, (), (4,)))])
        self.assertEqual([trail.head(), trail.beyond(), trail.last(), trail.next_number()], [(1, 1), 2, 4, 5])
        trail.put(pairs(0, 1, 2), ())
        self.assertEqual([place for place, _ in disk.told()], [start + at for at in (8, 9, 10, 11)])
        self.assertEqual([trail.head(), trail.beyond()], [(2, 4), 3])
        self.assertEqual(disk.waiting()[0], (start, summary(2, 0, 1, (1, 4), ())))
        self.assertEqual(len(disk.waiting()), 9)

    def test_the_map_behind_it(self):
        both = tandem(self, 6, 6)
        both.do("put", pairs(0, 3, 7), ())
        both.do("put", pairs(3, 8, word=6), (0,))
        self.assertEqual(both.trail.living(), (3, 7, 8))
        self.assertEqual(both.trail.read(key=3), (3,) + (6,) * 27)
        self.assertEqual(both.trail.read(7), (7,) + (5,) * 27)
        start = place_at(both.disk, 0, 0)
        self.assertEqual([both.trail.place_of(key=key) - start for key in (3, 7, 8)], [7, 3, 8])
        self.assertEqual(both.trail.uses(), (1, 2, 0, 0, 0, 0))

    def test_it_fits_just_so(self):
        """A group of K blocks at offset 0, and the last blocks of a segment."""
        both = tandem(self, 6, 5)
        both.do("put", pairs(0, 1, 2, 3), ())
        self.assertEqual(both.trail.head(), (0, 5))
        both.do("put", pairs(0, 1), ())
        self.assertEqual([both.trail.head(), both.trail.beyond()], [(1, 3), 2])
        both.do("put", pairs(4), ())
        self.assertEqual([both.trail.head(), both.trail.beyond()], [(1, 5), 2])
        both.do("put", pairs(4), (0,))
        both.do("put", pairs(5, 6, 7), ())
        # Segment 2 had room for 2 more puts, not for 3.
        self.assertEqual([both.trail.head(), both.trail.beyond()], [(3, 4), 4])
        both.do("put", (), (1,))
        self.assertEqual([both.trail.head(), both.trail.beyond()], [(3, 5), 4])

    def test_the_least_free_segment(self):
        both = tandem(self, 8, 4)
        for _ in range(3):
            both.do("put", pairs(0, 1, 2), ())
        self.assertEqual([both.trail.head(), both.trail.beyond()], [(2, 4), 3])
        both.do("root")
        # The segments 0 and 1 are free, the least first.
        both.do("put", pairs(0), ())
        self.assertEqual([both.trail.head(), both.trail.beyond()], [(3, 2), 0])
        both.do("put", pairs(0, 1, 2), ())
        self.assertEqual([both.trail.head(), both.trail.beyond()], [(0, 4), 1])

    def test_with_two_free_segments_it_does_not_pack(self):
        both = tandem(self, 6, 4)
        for free in (4, 4, 3, 2):
            self.assertEqual(both.free(), free)
            _, noted = both.do("put", pairs(0, 1, 2), ())
            self.assertNotIn("force", noted)
        self.assertEqual(both.free(), 1)
        _, noted = both.do("put", pairs(0, 1, 2), ())
        self.assertIn("force", noted)

    def test_what_fits_does_not_pack(self):
        both = tandem(self, 6, 5)
        for _ in range(4):
            both.do("put", pairs(0, 1, 2), ())
        self.assertEqual([both.free(), both.trail.head()], [1, (3, 4)])
        _, noted = both.do("put", (), (0,))
        self.assertEqual(len(noted), 1)
        _, noted = both.do("put", (), (1,))
        self.assertEqual(noted.count("force"), 2)


class TestRoots(unittest.TestCase):
    def test_each_write_and_force(self):
        for size in ((6, 4), (9, 6), (40, 24)):
            disk = watched(made(*size))
            shape = Shape(*size)
            trail = Trail(disk)
            trail.put(pairs(0, 2), ())
            noted = disk.told()
            places = [None] * shape.keys
            places[0], places[2] = shape.start + 1, shape.start + 2
            for number, area in ((3, 1), (4, 0), (5, 1), (6, 0)):
                self.assertIsNone(trail.root())
                blocks = root_blocks(shape, number, 0, 3, 1, 2, places)
                writes = [(area * shape.area + at, block) for at, block in enumerate(blocks)]
                self.assertEqual(disk.told(), ["force"] + writes + ["force"])
                self.assertEqual(newer_root(disk), area)
                self.assertEqual([trail.last(), trail.next_number(), trail.head()], [2, number + 1, (0, 3)])
                self.assertEqual(disk.waiting(), ())
            self.assertEqual(noted, [(shape.start + at, block) for at, block
                                     in enumerate(group_blocks(2, 0, 1, pairs(0, 2), ()))])

    def test_force(self):
        disk = watched(made(6, 4))
        trail = Trail(disk)
        trail.put(pairs(0), ())
        told = trail_state(trail)
        disk.told()
        self.assertIsNone(trail.force())
        self.assertEqual(disk.told(), ["force"])
        self.assertEqual(disk.waiting(), ())
        self.assertEqual(trail_state(trail), told)

    def test_roots_and_states(self):
        both = tandem(self, 8, 4)
        both.do("put", pairs(0, 1, 2), ())
        both.do("put", pairs(3, 4, 5), ())
        both.do("put", pairs(0, 1, 2), ())
        expected = ["closed", "closed", "current", "beyond"] + ["free"] * 4
        self.assertEqual(both.trail.states(), tuple(expected))
        both.do("root")
        # Nothing that is living is left in segment 0.
        self.assertEqual(both.trail.states(), ("free", *expected[1:]))
        both.do("put", pairs(3, 4, 5), ())
        self.assertEqual(both.trail.uses(), (0, 0, 3, 3, 0, 0, 0, 0))
        # The root still leads to segment 1, and its head was in segment 2.
        self.assertEqual(both.trail.states(), ("beyond", "closed", "closed", "current") + ("free",) * 4)
        both.do("root")
        both.do("put", pairs(0, 1, 2), ())
        both.do("put", (), (3, 4, 5))
        self.assertEqual(both.trail.states(), ("closed", "current", "closed", "closed", "beyond") + ("free",) * 3)
        self.assertEqual(both.trail.uses(), (3, 0, 0, 0, 0, 0, 0, 0))
        both.do("root")
        self.assertEqual(both.trail.states(), ("closed", "current", "free", "free", "beyond") + ("free",) * 3)

    def test_the_head_of_the_root_is_needed(self):
        """Also if nothing that is living is in its segment."""
        both = tandem(self, 6, 4)
        both.do("put", pairs(0), ())
        both.do("put", (), (0,))
        both.do("root")
        both.do("put", pairs(0, 1, 2), ())
        self.assertEqual([both.trail.states()[:3], both.trail.uses()[:3]], [("closed", "current", "beyond"), (0, 3, 0)])
        both.do("root")
        self.assertEqual(both.trail.states()[:3], ("free", "current", "beyond"))

    def test_roots_without_changes(self):
        both = tandem(self)
        for number in range(2, 12):
            both.do("root")
            self.assertEqual([both.trail.next_number(), both.trail.last()], [number + 1, 0])


class TestForgetting(unittest.TestCase):
    def test_the_next_root(self):
        both = tandem(self, 6, 8)
        both.do("put", pairs(0, 1, 2, 3), ())
        before = meaning(both.disk)
        _, noted = both.do("forget", (1, 3))
        self.assertEqual(noted, [])
        self.assertEqual([both.trail.living(), both.trail.uses()], [(0, 2), (2, 0, 0, 0, 0, 0)])
        # Without a root nothing is forgotten on the disk.
        self.assertEqual(meaning(both.disk), before)
        self.assertEqual(Trail(both.disk).living(), (0, 1, 2, 3))
        both.do("force")
        self.assertEqual(Trail(both.disk).living(), (0, 1, 2, 3))
        both.do("root")
        self.assertEqual(Trail(both.disk).living(), (0, 2))
        self.assertEqual([key for key, _ in map_of(both.disk)], [0, 2])

    def test_forgotten_and_put_anew(self):
        both = tandem(self, 6, 8)
        both.do("put", pairs(0, 1), ())
        both.do("forget", (0, 1))
        self.assertEqual(both.trail.living(), ())
        self.assertEqual(both.trail.free_keys(3), (0, 1, 2))
        both.do("put", pairs(1, word=9), ())
        self.assertEqual(both.trail.living(), (1,))
        self.assertEqual(Trail(both.disk).living(), (0, 1))
        both.do("root")
        self.assertEqual(Trail(both.disk).living(), (1,))
        self.assertEqual(Trail(both.disk).read(1), (1,) + (9,) * 27)

    def test_nothing_to_forget(self):
        both = tandem(self)
        both.do("forget", ())
        self.assertIsNone(both.trail.forget(keys=()))
        both.do("put", pairs(2), ())
        both.do("forget", ())
        self.assertEqual(both.trail.living(), (2,))

    def test_a_segment_of_forgotten_keys(self):
        """It stays closed until the root without them stands."""
        both = tandem(self, 6, 4)
        both.do("put", pairs(0, 1, 2), ())
        both.do("root")
        both.do("put", pairs(3), ())
        both.do("forget", (0, 1, 2))
        self.assertEqual([both.trail.states()[0], both.trail.uses()[0]], ["closed", 0])
        both.do("clean", (0,))
        self.assertEqual(both.trail.states()[0], "closed")
        both.do("root")
        self.assertEqual(both.trail.states()[0], "free")


class TestFreeKeys(unittest.TestCase):
    def test_the_least_ones(self):
        trail = Trail(made(6, 4))
        self.assertEqual(trail.free_keys(0), ())
        self.assertEqual(trail.free_keys(many=6), (0, 1, 2, 3, 4, 5))
        self.assertIsNone(trail.free_keys(7))
        self.assertIsNone(trail.free_keys(10 ** 40 - 1))
        trail.put(pairs(0, 2, 5), ())
        for many, expected in ((0, ()), (1, (1,)), (2, (1, 3)), (3, (1, 3, 4)), (4, None)):
            self.assertEqual(trail.free_keys(many), expected)
        trail.put(pairs(1, 3, 4), ())
        self.assertEqual([trail.free_keys(0), trail.free_keys(1)], [(), None])
        trail.put((), (2, 3))
        self.assertEqual([trail.free_keys(2), trail.free_keys(3)], [(2, 3), None])


class TestAfterCuts(unittest.TestCase):
    def test_a_lost_group(self):
        both = tandem(self, 6, 6)
        both.do("put", pairs(0, 1), ())
        both.do("force")
        both.do("put", pairs(0, word=6), ())
        both.after_cut((32, 31))
        self.assertEqual([both.trail.head(), both.trail.last(), both.trail.next_number()], [(0, 3), 2, 4])
        self.assertEqual(both.trail.read(0), (0,) + (5,) * 27)
        both.do("put", pairs(1, word=7), ())
        self.assertEqual([both.trail.last(), both.trail.place_of(1)], [4, 6])
        both.after_cut((32, 32))
        self.assertEqual([both.trail.last(), both.trail.read(1)], [4, (1,) + (7,) * 27])

    def test_a_number_again(self):
        """A group of which nothing is left gives its number to another one."""
        both = tandem(self, 6, 6)
        both.do("put", pairs(0, 1), ())
        both.after_cut(())
        both.do("put", pairs(3), ())
        self.assertEqual([both.trail.last(), both.trail.living()], [2, (3,)])

    def test_a_group_that_is_left_without_the_one_before_it(self):
        both = tandem(self, 6, 6)
        both.do("put", pairs(0), ())
        both.do("put", pairs(1), ())
        both.after_cut((0, 0, 32, 32))
        self.assertEqual([both.trail.head(), both.trail.living(), both.trail.next_number()], [(0, 0), (), 4])
        both.do("put", pairs(2), ())
        self.assertEqual([both.trail.last(), both.trail.living()], [4, (2,)])
        self.assertEqual(road(both.disk), ((0, 0, 4),))
        self.assertEqual(top_number(both.disk), 4)

    def test_a_torn_root(self):
        """The next one goes into its area again, be it area 0 or 1."""
        for roots in (0, 1, 2):
            newer = roots & 1
            for many in range(33):
                both = tandem(self, 6, 4)
                for _ in range(roots):
                    both.do("root")
                both.do("put", pairs(0, 1), ())
                both.disk.fuse(2)
                self.assertIs(caught(both.trail.root).__class__, PowerCut)
                both.disk.told()
                both.after_cut((many,))
                self.assertEqual(newer_root(both.disk), 1 - newer if many == 32 else newer)
                self.assertEqual([both.trail.living(), both.trail.head()], [(0, 1), (0, 3)])
                self.assertEqual(both.trail.next_number(), roots + (3 if many == 0 else 4))
                both.do("root")
                self.assertEqual(newer_root(both.disk), newer if many == 32 else 1 - newer)


class TestAsking(unittest.TestCase):
    def test_twice_the_same(self):
        """Asking writes nothing and changes nothing, also when the power is about to fail."""
        disk = watched(made(6, 5))
        trail = Trail(disk)
        for keys in ((0, 1, 2), (3, 4, 5), (0, 1)):
            trail.put(pairs(*keys), ())
        disk.fuse(0)
        disk.told()
        before = disk_state(disk)
        for word, *parts in (("living",), ("read", 3), ("place_of", 3), ("free_keys", 2), ("head",), ("beyond",), ("last",),
                             ("next_number",), ("uses",), ("states",), ("chosen", "oldest", 2), ("free_keys", 99)):
            first = getattr(trail, word)(*parts)
            self.assertIn(first.__class__, (tuple, int, None.__class__))
            self.assertEqual(getattr(trail, word)(*parts), first)
        self.assertIs(trail.disk(), disk)
        self.assertEqual(disk.told(), [])
        self.assertEqual(disk_state(disk), before)
        self.assertEqual(trail_state(Trail(disk)), trail_state(trail))


if __name__ == "__main__":
    unittest.main()
