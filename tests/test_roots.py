"""Roots, root areas, the newer root and new disks [4.1, 4.2]."""

import random
import unittest

from reader import Shape, judged_root, newer, root_blocks
from support import STRANGE, blocks_of, caught, disk_state
from trailkeep.disk import Disk
from trailkeep.errors import BadArea, BadDisk, BadSize
from trailkeep.roots import judge_root, made, newer_root

MOST = 10 ** 9
SIZES = ((6, 4), (6, 24), (40, 4), (40, 24), (9, 6), (23, 17))


def lay(disk, area, blocks):
    size = disk.sizes()[3]
    for at, block in enumerate(blocks):
        disk.write(area * size + at, block)


def changed(blocks, i, at, word):
    block = blocks[i][:at] + (word,) + blocks[i][at + 1:]
    return blocks[:i] + [block] + blocks[i + 1:]


def drawn_root(draw, shape):
    """The parts of a root: number, segment, offset, beyond, last, places."""
    places = [draw.choice((None, draw.randrange(shape.start, shape.many))) for _ in range(shape.keys)]
    offset = draw.choice((0, shape.blocks, draw.randrange(shape.blocks + 1)))
    return (draw.choice((1, 2, MOST, draw.randrange(1, 99))), draw.randrange(shape.segments), offset,
            draw.randrange(shape.segments), draw.choice((0, MOST, draw.randrange(99))), tuple(places))


def disk_with_root(size, area, *parts):
    disk = Disk(*size)
    lay(disk, area, root_blocks(Shape(*size), *parts))
    return disk


class TestRoots(unittest.TestCase):
    def test_drawn_roots(self):
        for seed in range(200):
            draw = random.Random(seed)
            size = draw.choice(SIZES)
            parts = drawn_root(draw, Shape(*size))
            area = seed % 2
            disk = disk_with_root(size, area, *parts)
            for _ in range(2):
                before = disk_state(disk)
                found = judge_root(disk=disk, area=area)
                self.assertEqual(found, ("root",) + parts)
                self.assertIs(found[-1].__class__, tuple)
                self.assertEqual(judge_root(disk, 1 - area), ("broken", 0))
                self.assertEqual(newer_root(disk=disk), area)
                self.assertEqual(disk_state(disk), before)
                disk.force()

    def test_bounds(self):
        """The greatest of each part, and one more."""
        for size in SIZES:
            shape = Shape(*size)
            none = (None,) * shape.keys
            for at, most in ((1, shape.segments - 1), (2, shape.blocks), (3, shape.segments - 1), (4, MOST)):
                for word in (0, most, most + 1, MOST):
                    parts = [1, 0, 0, 0, 0, none]
                    parts[at] = word
                    expected = ("root", *parts) if word <= most else ("form",)
                    if word <= MOST:
                        self.assertEqual(judge_root(disk_with_root(size, 0, *parts), 0), expected)

    def test_places(self):
        for size in SIZES:
            shape = Shape(*size)
            for key in (0, 1, shape.keys - 1):
                for place in (0, shape.start - 1, shape.start, shape.many - 1, shape.many, MOST - 1):
                    places = [None] * shape.keys
                    places[key] = place
                    found = judge_root(disk_with_root(size, 1, 5, 0, 0, 1, 0, places), 1)
                    if shape.start <= place < shape.many:
                        self.assertEqual(found, ("root", 5, 0, 0, 1, 0, tuple(places)))
                    else:
                        self.assertEqual(found, ("form",))
        # Two keys may have one place.
        self.assertEqual(judge_root(disk_with_root((6, 4), 0, 5, 0, 0, 1, 0, (2,) * 6), 0)[6], (2,) * 6)

    def test_words_behind_the_keys(self):
        for size in ((6, 4), (40, 4), (9, 6)):
            shape = Shape(*size)
            blocks = root_blocks(shape, 5, 0, 0, 1, 0, (None,) * shape.keys)
            for at in range(4 + shape.keys, 28 * shape.area):
                disk = Disk(*size)
                lay(disk, 0, changed(blocks, at // 28, 3 + at - at // 28 * 28, 1))
                self.assertEqual(judge_root(disk, 0), ("form",))
        # One more block than the words would need is never there: 28 R is less than N + 4 + 28.
        self.assertEqual([Shape(*size).area for size in ((6, 13), (6, 12), (7, 9), (9, 6))], [1, 1, 1, 2])


class TestBroken(unittest.TestCase):
    def test_each_block(self):
        for size, area in (((6, 4), 0), ((40, 24), 1), ((9, 6), 0)):
            shape = Shape(*size)
            blocks = root_blocks(shape, 5, 0, 0, 1, 0, (None,) * shape.keys)
            for i in sorted({0, 1, shape.area // 2, shape.area - 1} & set(range(shape.area))):
                for at, words in ((0, (0, 4, 6)), (1, (0, 1, 2, 4, MOST)), (2, (i + 1, MOST)), (31, (0, 4, 6))):
                    for word in words:
                        disk = Disk(*size)
                        lay(disk, area, changed(blocks, i, at, word))
                        # A first block with another number has the wrong last word itself.
                        self.assertEqual(judge_root(disk, area), ("broken", i), (size, i, at, word))

    def test_the_first_one(self):
        shape = Shape(40, 24)
        blocks = root_blocks(shape, 5, 0, 0, 1, 0, (None,) * shape.keys)
        for first, second in ((0, 29), (3, 4), (28, 29), (7, 1)):
            disk = Disk(40, 24)
            lay(disk, 0, changed(changed(blocks, first, 0, 9), second, 31, 9))
            self.assertEqual(judge_root(disk, 0), ("broken", min(first, second)))
        # All blocks have one other number than the first.
        disk = Disk(40, 24)
        lay(disk, 0, blocks[:1] + root_blocks(shape, 6, 0, 0, 1, 0, (None,) * shape.keys)[1:])
        self.assertEqual(judge_root(disk, 0), ("broken", 1))

    def test_broken_comes_before_form(self):
        shape = Shape(9, 6)
        blocks = root_blocks(shape, 5, 9, 7, 9, 0, (0,) * shape.keys)
        disk = Disk(9, 6)
        lay(disk, 0, blocks)
        self.assertEqual(judge_root(disk, 0), ("form",))
        lay(disk, 0, changed(blocks, 1, 31, 4))
        self.assertEqual(judge_root(disk, 0), ("broken", 1))

    def test_zeros(self):
        for blocks in ([(0, 3, 0) + (0,) * 29], [(0,) * 32], [(0, 3, 0) + (0,) * 28 + (1,)]):
            disk = Disk(6, 4)
            lay(disk, 0, blocks)
            self.assertEqual(judge_root(disk, 0), ("broken", 0))

    def test_torn_roots(self):
        """A cut amid an older root or a blank area, at each of its blocks."""
        shape = Shape(9, 6)
        for older in (False, True):
            for keep, expected in (((32, 32), "new"), ((), "old"), ((32, 0), 1), ((0, 32), 0 if not older else 1),
                                   ((31, 32), 0), ((1, 32), 0), ((32, 31), 1), ((32, 1), 1), ((32,), 1)):
                disk = Disk(9, 6)
                parts = (5, 1, 2, 3, 4, (None,) * shape.keys), (6, 2, 1, 4, 5, (9,) * shape.keys)
                if older:
                    lay(disk, 0, root_blocks(shape, *parts[0]))
                    disk.force()
                lay(disk, 0, root_blocks(shape, *parts[1]))
                disk.cut(keep)
                if expected == "new":
                    self.assertEqual(judge_root(disk, 0), ("root",) + parts[1])
                elif expected == "old":
                    self.assertEqual(judge_root(disk, 0), ("root",) + parts[0] if older else ("broken", 0))
                else:
                    self.assertEqual(judge_root(disk, 0), ("broken", expected), keep)


class TestNewer(unittest.TestCase):
    def newer_of(self, *numbers):
        disk = Disk(9, 6)
        for area, number in enumerate(numbers):
            if number is not None:
                lay(disk, area, root_blocks(Shape(9, 6), number, 0, 0, 1, 0, (None,) * 25))
        return newer_root(disk)

    def test_the_greater_number(self):
        for numbers, expected in (((None, None), None), ((1, None), 0), ((None, 1), 1), ((1, 2), 1), ((2, 1), 0),
                                  ((MOST - 1, MOST), 1), ((MOST, 3), 0)):
            self.assertEqual(self.newer_of(*numbers), expected)
        for number in (1, 7, MOST):
            self.assertEqual(self.newer_of(number, number), 0)

    def test_a_torn_root_does_not_count(self):
        for area in (0, 1):
            for i in (0, 1):
                disk = Disk(9, 6)
                lay(disk, area, root_blocks(Shape(9, 6), 5, 0, 0, 1, 0, (None,) * 25))
                torn = changed(root_blocks(Shape(9, 6), 6, 0, 0, 1, 0, (None,) * 25), i, 31, 5)
                lay(disk, 1 - area, torn)
                self.assertEqual(newer_root(disk), area)
                lay(disk, area, torn)
                self.assertIsNone(newer_root(disk))
        disk = Disk(6, 4)
        lay(disk, 0, root_blocks(Shape(6, 4), 5, 6, 0, 1, 0, (None,) * 6))
        self.assertIsNone(newer_root(disk))

    def test_no_disk(self):
        for thing in STRANGE + (made(6, 4).standing(), judge_root(made(6, 4), 0)):
            if not isinstance(thing, Disk):
                for area in (0, 1, 2, None):
                    error = caught(judge_root, thing, area)
                    self.assertIs(error.__class__, BadDisk)
                    self.assertIs(error.thing, thing)
                error = caught(newer_root, thing)
                self.assertIs(error.__class__, BadDisk)
                self.assertIs(error.thing, thing)

    def test_wrong_areas(self):
        for disk in (Disk(6, 4), made(6, 4)):
            before = disk_state(disk)
            for thing in STRANGE + (2, 3, -1, True, False, "0", (0,), [1]):
                error = caught(judge_root, disk, thing)
                self.assertIs(error.__class__, BadArea)
                self.assertIs(error.thing, thing)
            self.assertEqual(disk_state(disk), before)


class TestMade(unittest.TestCase):
    def test_all_sizes(self):
        for segments in range(6, 41):
            for blocks in range(4, 25):
                disk = made(segments, blocks)
                shape = Shape(segments, blocks)
                none = (None,) * shape.keys
                self.assertEqual(disk.sizes(), (segments, blocks, shape.keys, shape.area))
                self.assertEqual(judge_root(disk, 0), ("root", 1, 0, 0, 1, 0, none))
                self.assertEqual(disk.waiting(), ())
                first = tuple(root_blocks(shape, 1, 0, 0, 1, 0, none))
                self.assertEqual(disk.standing(), first + ((0,) * 32,) * (disk.many() - shape.area))

    def test_each_one_is_new(self):
        one, two = made(blocks=4, segments=6), made(6, 4)
        self.assertIs(one.__class__, Disk)
        self.assertNotEqual(one, two)
        one.write(0, (0,) * 32)
        self.assertEqual(newer_root(two), 0)
        self.assertIsNone(newer_root(one))
        self.assertIsNone(two.force())

    def test_wrong_sizes(self):
        for thing in STRANGE + (0, 5, 41, "6", (6,), True):
            for blocks in (4, 3, None):
                error = caught(made, thing, blocks)
                self.assertIs(error.__class__, BadSize)
                self.assertIs(error.thing, thing)
        for thing in STRANGE + (0, 3, 25, "4", (4,), True):
            error = caught(made, 6, thing)
            self.assertIs(error.__class__, BadSize)
            self.assertIs(error.thing, thing)


class TestRows(unittest.TestCase):
    def test_drawn_roots_with_drawn_faults(self):
        results = {}
        for seed in range(1500):
            draw = random.Random(seed)
            size = draw.choice(SIZES[:1] * 3 + SIZES)
            shape, disk = Shape(*size), Disk(*size)
            for area in (0, 1):
                blocks = root_blocks(shape, *drawn_root(draw, shape))
                for _ in range(draw.randrange(3)):
                    at = draw.choice((0, 1, 2, 3, 4, 5, 31, draw.randrange(32)))
                    word = draw.choice((0, 1, 3, draw.randrange(shape.many + 3), draw.randrange(40)))
                    blocks = changed(blocks, draw.randrange(shape.area), at, word)
                lay(disk, area, blocks)
            if seed % 2:
                disk.force()
            for area in (0, 1):
                found = judge_root(disk, area)
                self.assertEqual(found, judged_root(shape, blocks_of(disk), area), seed)
                results[found[0]] = results.get(found[0], 0) + 1
            self.assertEqual(newer_root(disk), newer(shape, blocks_of(disk)))
        self.assertGreater(min(results[word] for word in ("root", "broken", "form")), 100)


if __name__ == "__main__":
    unittest.main()
