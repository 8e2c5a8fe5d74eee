"""What a disk means behind a cut [5.4]."""

import itertools
import random
import unittest

from reader import Reading, Shape
from support import blocks_of, caught, disk_state, pairs
from trailkeep.errors import PowerCut
from trailkeep.meaning import map_of, meaning, road, top_number
from trailkeep.roots import made
from trailkeep.trail import Trail


def steps_of(disk):
    """What the disk means at the start of its road, and behind each of its groups."""
    shape = Shape(*disk.sizes()[:2])
    blocks = blocks_of(disk)
    return [Reading(shape, blocks, at).meaning for at in range(len(road(disk)) + 1)]


def forced_groups(disk):
    """How many first groups of the road have no waiting block."""
    shape = Shape(*disk.sizes()[:2])
    waiting = {place for place, _ in disk.waiting()}
    found = 0
    for segment, offset, _ in road(disk):
        start = shape.place(segment, offset)
        if waiting & set(range(start, start + 1 + disk.read(start)[4])):
            break
        found += 1
    return found


class TestEachKeep(unittest.TestCase):
    def check(self, disk, keep):
        """Compares behind a cut of a copy; returns how many groups of the road were left."""
        stops, steps, least = road(disk), steps_of(disk), forced_groups(disk)
        other = disk.copied()
        other.cut(keep)
        left = road(other)
        self.assertEqual(left, stops[:len(left)])
        self.assertGreaterEqual(len(left), least)
        self.assertEqual(meaning(other), steps[len(left)])
        return len(left)

    def test_lose_keep_and_tear_each_write(self):
        trail = Trail(made(6, 4))
        trail.put(pairs(0, 1), ())
        trail.force()
        trail.put(pairs(0, word=6), ())
        trail.put(pairs(2, word=7), (1,))
        trail.put((), (0,))
        self.assertEqual(len(trail.disk().waiting()), 5)
        for keep in itertools.product((0, 1, 31, 32), repeat=5):
            left = self.check(trail.disk(), keep)
            whole = 1 + (keep[:2] == (32, 32)) * (1 + (keep[2:4] == (32, 32)) * (1 + (keep[4] == 32)))
            self.assertEqual(left, whole)

    def test_each_word(self):
        """A write that is torn behind each of its words."""
        trail = Trail(made(6, 4))
        trail.put(pairs(0, 1), ())
        trail.put((), (1,))
        for at, many in itertools.product(range(4), range(33)):
            keep = (32,) * at + (many,) + (32,) * (3 - at)
            self.assertEqual(self.check(trail.disk(), keep), 2 if many == 32 else 1 if at == 3 else 0)

    def test_over_older_blocks(self):
        """The writes wait over groups from before, on segments that became free."""
        trail = Trail(made(6, 4))
        for word in range(5):
            trail.put(pairs(0, 1, 2, word=word), ())
        trail.root()
        trail.put(pairs(0, 1, 2, word=9), ())
        trail.put(pairs(3), (0,))
        disk = trail.disk()
        self.assertEqual(len(disk.waiting()), 6)
        self.assertNotIn((0,) * 32, [disk.standing()[place] for place, _ in disk.waiting()[:4]])
        for keep in itertools.product((0, 31, 32), repeat=6):
            whole = 0 if keep[:4] != (32,) * 4 else 2 if keep[4:] == (32, 32) else 1
            self.assertEqual(self.check(disk, keep), whole)

    def test_without_waiting_writes_nothing_changes(self):
        for end in ("force", "root"):
            trail = Trail(made(6, 4))
            trail.put(pairs(0, 1), ())
            trail.put(pairs(2), (1,))
            getattr(trail, end)()
            disk = trail.disk()
            before = disk_state(disk), road(disk), map_of(disk), meaning(disk), top_number(disk)
            for keep in ((), (0, 0), (32,) * 40, (5,)):
                disk.cut(keep)
                self.assertEqual((disk_state(disk), road(disk), map_of(disk), meaning(disk), top_number(disk)), before)

    def test_what_came_before_a_root_stays(self):
        trail = Trail(made(6, 6))
        trail.put(pairs(0, 1), ())
        trail.root()
        trail.put(pairs(0, word=6), (1,))
        disk = trail.disk()
        self.assertEqual([self.check(disk, keep) for keep in ((), (32, 31), (32, 32))], [0, 0, 1])
        disk.cut(())
        self.assertEqual(meaning(disk), pairs(0, 1))

    def test_amid_a_root(self):
        """The root itself is lost, torn or kept; the groups before it were forced."""
        for area, size in ((1, (9, 6)), (0, (9, 6)), (1, (6, 4))):
            trail = Trail(made(*size))
            if area == 0:
                trail.root()
            trail.put(pairs(0, 1), ())
            disk = trail.disk()
            told = meaning(disk)
            many = disk.sizes()[3]
            for fuse in range(1, many + 2):
                disk.fuse(fuse)
                self.assertIs(caught(Trail(disk).root).__class__, PowerCut)
                for keep in itertools.product((0, 1, 31, 32), repeat=fuse - 1):
                    other = disk.copied()
                    other.cut(keep)
                    self.assertEqual(meaning(other), told)
                    self.assertEqual(len(road(other)), 0 if keep == (32,) * many else 1)
                disk.cut(())


class TestDrawn(unittest.TestCase):
    def test_cut_again_and_again(self):
        """Rows of puts, forces, roots and cleanings; a cut anywhere among them, and the next row from there."""
        lost, kept, torn = 0, 0, 0
        for seed in range(60):
            draw = random.Random(seed)
            disk = made(*draw.choice(((6, 4), (6, 5), (7, 4), (6, 8))))
            keys, full = disk.sizes()[2], disk.sizes()[1] - 1
            for _ in range(12):
                trail = Trail(disk)
                for _ in range(draw.randrange(9)):
                    put = sorted(draw.sample(range(keys), draw.randrange(1, full + 1)))
                    living = [key for key in trail.living() if key not in put]
                    trail.put(pairs(*put, word=draw.randrange(99)), tuple(living[:draw.randrange(2)]))
                    luck = draw.random()
                    if luck < 0.1:
                        trail.force()
                    elif luck < 0.2:
                        trail.root()
                    elif luck < 0.4:
                        trail.clean(trail.chosen(draw.choice(("emptiest", "fullest", "oldest", "first")), 2))
                stops, steps, least = road(disk), steps_of(disk), forced_groups(disk)
                waits = len(disk.waiting())
                disk.cut(tuple(draw.choice((0, 32, 32, 32, draw.randrange(33))) for _ in range(waits)))
                left = road(disk)
                self.assertEqual(left, stops[:len(left)])
                self.assertGreaterEqual(len(left), least)
                self.assertEqual(meaning(disk), steps[len(left)])
                lost += len(left) == least < len(stops)
                kept += len(left) == len(stops) > least
                torn += least < len(left) < len(stops)
        self.assertGreater(min(lost, kept, torn), 20)


if __name__ == "__main__":
    unittest.main()
