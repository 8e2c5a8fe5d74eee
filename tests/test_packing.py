"""There is always room for N keys, and packing ends [8.1 to 8.3]."""

import random
import unittest

from reader import Trailing, group_blocks, root_blocks
from support import blocks_of, caught, content, pairs, trail_state, watched
from tandem import Tandem, tandem
from trailkeep.disk import place_at
from trailkeep.errors import PowerCut
from trailkeep.meaning import meaning, top_number
from trailkeep.roots import made
from trailkeep.trail import Trail


def is_summary(shape, place, block):
    return place >= shape.start and block[1] == 1


def filled(case, segments, blocks, careful=False):
    """A tandem with N living keys, put by groups that fill whole segments."""
    both = tandem(case, segments, blocks, careful)
    for first in range(0, both.shape.keys, blocks - 1):
        both.do("put", pairs(*range(first, first + blocks - 1)), ())
    case.assertEqual(len(both.trail.living()), both.shape.keys)
    return both


def check_packing(case, both, before, noted):
    """What was written by a put: at most S groups of packing, and the states behind each root."""
    shape = both.shape
    model = Trailing(shape.segments, shape.blocks, before)
    roots, groups = 0, 0
    for at, done in enumerate(noted):
        if done == "force":
            continue
        place, block = done
        groups += is_summary(shape, place, block)
        model.do(place, block)
        if place < shape.start and noted[at + 1] == "force":
            roots += 1
            case.assertGreaterEqual(len(model.having("free")), 1)
            last = len(model.having("free"))
    if roots:
        case.assertGreaterEqual(last, 2)
    case.assertLessEqual(groups - 1, shape.segments)
    case.assertLessEqual(both.trail.next_number() - top_number_of(before), 3 * shape.segments + 3)
    return roots, groups - 1


def top_number_of(blocks):
    return max(max(block[0], block[31]) for block in blocks)


class TestOneRound(unittest.TestCase):
    def trail(self):
        """Six keys on six segments of four blocks, behind which the next put has to pack."""
        disk = watched(made(6, 4))
        trail = Trail(disk)
        for keys in ((0, 1, 2), (3, 4, 5), (0,), (3,), (1,), (4,)):
            trail.put(pairs(*keys, word=7), ())
        self.assertEqual(trail.states(), ("closed", "closed", "closed", "current", "beyond", "free"))
        self.assertEqual(trail.uses(), (1, 1, 2, 2, 0, 0))
        self.assertEqual([trail.head(), trail.next_number()], [(3, 4), 8])
        disk.told()
        return trail

    def test_each_write(self):
        trail = self.trail()
        disk, start = trail.disk(), place_at(trail.disk(), 0, 0)
        old = dict(zip(range(6), [trail.place_of(key) for key in range(6)]))
        trail.put(pairs(2, word=9), ())
        # Segment 0 gives key 2, segment 1 key 5, and segment 2 the one with the lesser place, key 0.
        expected = ["force", (1, root_blocks(Trailing(6, 4, ()).shape, 8, 3, 4, 4, 7, list(old.values()))[0]), "force"]
        packed = group_blocks(9, 7, 5, pairs(0, 2, 5, word=7), ())
        expected += [(start + 16 + at, block) for at, block in enumerate(packed)]
        places = [start + 17, old[1], start + 18, old[3], old[4], start + 19]
        expected += ["force", (0, root_blocks(Trailing(6, 4, ()).shape, 10, 4, 4, 5, 9, places)[0]), "force"]
        last = group_blocks(11, 9, 0, pairs(2, word=9), ())
        expected += [(start + 20 + at, block) for at, block in enumerate(last)]
        self.assertEqual(disk.told(), expected)
        self.assertEqual([trail.head(), trail.beyond(), trail.last(), trail.next_number()], [(5, 2), 0, 11, 12])
        self.assertEqual(trail.states(), ("beyond", "free", "closed", "closed", "closed", "current"))
        self.assertEqual(trail.uses(), (0, 0, 1, 2, 2, 1))
        self.assertEqual(trail_state(Trail(disk)), trail_state(trail))

    def test_a_root_may_be_enough(self):
        both = tandem(self, 6, 4)
        for word in range(4):
            both.do("put", pairs(0, 1, 2, word=word), ())
        self.assertEqual([both.free(), both.trail.head()], [1, (3, 4)])
        _, noted = both.do("put", pairs(3), ())
        self.assertEqual([noted.count("force"), len(noted)], [2, 5])
        self.assertEqual([both.trail.head(), both.trail.beyond()], [(4, 2), 0])
        self.assertEqual(both.trail.states(), ("beyond", "free", "free", "closed", "current", "free"))

    def sparse(self):
        """One living key in each of the segments 0, 1, 2 and 3, and one free segment."""
        both = tandem(self, 6, 6)
        for first in range(3):
            both.do("put", pairs(*range(first, first + 5)), ())
        both.do("put", pairs(7), (3, 4, 5, 6))
        self.assertEqual([both.trail.head(), both.trail.uses(), both.free()], [(3, 2), (1, 1, 1, 1, 0, 0), 1])
        return both

    def test_a_current_segment_with_room_is_left(self):
        """The group of packing goes to beyond, though it would fit behind the head."""
        both = self.sparse()
        _, noted = both.do("put", pairs(3, 4, 5, 6), ())
        self.assertEqual(noted.count("force"), 4)
        self.assertEqual([place for place, _ in noted[3:7]], [both.shape.place(4, at) for at in range(4)])
        self.assertEqual([both.trail.head(), both.trail.beyond()], [(5, 5), 0])
        self.assertEqual(both.trail.states(), ("beyond", "free", "free", "closed", "closed", "current"))

    def test_behind_packing_the_group_goes_where_it_fits(self):
        both = self.sparse()
        both.do("put", pairs(7, 8), ())
        self.assertEqual(both.trail.head(), (3, 5))
        _, noted = both.do("put", pairs(9), ())
        self.assertEqual(noted.count("force"), 4)
        self.assertEqual([both.trail.head(), both.trail.beyond()], [(4, 6), 5])


class TestAlwaysRoom(unittest.TestCase):
    def test_many_puts_into_full_disks(self):
        """Each put is done, whatever keys it puts, on the least disks and on others."""
        packed = 0
        for size in ((6, 4), (6, 5), (7, 4), (8, 6), (6, 12)):
            for seed in range(3):
                draw = random.Random(seed)
                both = filled(self, *size, careful=seed == 0 and size == (6, 4))
                for _ in range(60):
                    before = blocks_of(both.disk)
                    many = draw.choice((1, 1, 2, size[1] - 1, draw.randrange(1, size[1])))
                    keys = sorted(draw.sample(range(both.shape.keys), min(many, both.shape.keys)))
                    _, noted = both.do("put", pairs(*keys, word=draw.randrange(99)), ())
                    packed += check_packing(self, both, before, noted)[1]
        self.assertGreater(packed, 200)

    def test_the_greatest_sizes(self):
        trail = Trail(made(40, 24))
        for first in range(0, 828, 23):
            trail.put(pairs(*range(first, first + 23)), ())
        self.assertEqual(len(trail.living()), 828)
        draw = random.Random(1)
        for at in range(40):
            keys = sorted(draw.sample(range(828), 9))
            trail.put(pairs(*keys, word=at), ())
            self.assertEqual([trail.read(key)[1] for key in keys], [at] * 9)
        self.assertEqual(trail_state(Trail(trail.disk())), trail_state(trail))
        self.assertEqual(trail.living(), tuple(range(828)))
        self.assertIsNone(trail.free_keys(1))

    def test_drops_and_puts_by_turns(self):
        for seed in range(6):
            draw = random.Random(seed)
            both = filled(self, 6, draw.choice((4, 5, 8)))
            keys = range(both.shape.keys)
            for _ in range(60):
                before = blocks_of(both.disk)
                living = both.trail.living()
                put = sorted(draw.sample(keys, draw.randrange(both.shape.blocks)))
                drops = [key for key in living if key not in put and draw.random() < 0.3][:24 - len(put)]
                if put or drops:
                    _, noted = both.do("put", pairs(*put, word=draw.randrange(99)), tuple(drops))
                    check_packing(self, both, before, noted)
                if draw.random() < 0.3:
                    both.do("clean", both.closed()[:draw.randrange(4)])

    def test_drops_alone(self):
        """Nothing but drops, one by one, from a full disk whose segments are all in use."""
        both = filled(self, 6, 4, careful=True)
        for key in range(6):
            both.do("put", pairs(key), ())
        for key in (3, 0, 5, 1, 4, 2):
            both.do("put", (), (key,))
        self.assertEqual(both.trail.living(), ())
        for word in range(30):
            both.do("put", pairs(0), ())
            both.do("put", (), (0,))
        self.assertEqual(meaning(both.disk), ())


class TestCutsAmidPacking(unittest.TestCase):
    def packing(self, seed):
        """A full disk, and a put that packs it with many writes."""
        draw = random.Random(seed)
        both = filled(self, *draw.choice(((6, 4), (6, 6), (7, 5))))
        for _ in range(400):
            before = both.disk.copied()
            keys = sorted(draw.sample(range(both.shape.keys), draw.randrange(1, both.shape.blocks)))
            parts = pairs(*keys, word=draw.randrange(99)), ()
            _, noted = both.do("put", *parts)
            if noted.count("force") >= 4:
                return before, parts, noted
        self.fail("nothing was packed")

    def test_at_each_write(self):
        for seed in range(8):
            before, parts, noted = self.packing(seed)
            told = dict(meaning(before))
            for fuse in range(len(noted)):
                disk = watched(before)
                trail = Trail(disk)
                disk.fuse(fuse)
                self.assertIs(caught(trail.put, *parts).__class__, PowerCut)
                self.assertEqual(disk.told(), noted[:fuse])
                draw = random.Random(fuse)
                waits = len(disk.waiting())
                for keep in ((), (32,) * waits, tuple(draw.randrange(33) for _ in range(waits))):
                    other = disk.copied()
                    other.cut(keep)
                    found = dict(meaning(other))
                    if "force" in noted[:fuse]:
                        # What had waited was forced first, and packing itself changes nothing.
                        self.assertEqual(found, told)
                    # Packing goes on from there.
                    both = Tandem(self, other)
                    for at in range(6):
                        start = blocks_of(both.disk)
                        _, done = both.do("put", pairs(at, word=at), ())
                        check_packing(self, both, start, done)
                    self.assertEqual(set(both.trail.living()), set(found) | set(range(6)))

    def test_again_and_again(self):
        """Cuts amid one packing after the other; each time the next trail goes on."""
        for seed in range(12):
            draw = random.Random(seed)
            both = filled(self, *draw.choice(((6, 4), (6, 5), (7, 4))))
            both.do("force")
            cuts = 0
            for at in range(60):
                keys = sorted(draw.sample(range(both.shape.keys), draw.randrange(1, both.shape.blocks)))
                before = meaning(both.disk)
                after = dict(before)
                after.update(dict(pairs(*keys, word=at)))
                both.disk.fuse(draw.randrange(12))
                error = caught(both.trail.put, pairs(*keys, word=at), ())
                if error is None:
                    error = caught(both.trail.force)
                cuts += error is not None
                both.disk.cut(tuple(draw.choice((0, 32, 32, draw.randrange(33))) for _ in range(draw.randrange(9))))
                self.assertIn(meaning(both.disk), (before, tuple(sorted(after.items()))))
                if error is None:
                    self.assertEqual(meaning(both.disk), tuple(sorted(after.items())))
                both.disk.told()
                both.mount()
            self.assertGreater(cuts, 5)

    def test_no_free_segment(self):
        """A cut behind the group of packing may leave none; the next packing begins with a root, which frees some."""
        seen = 0
        for seed in range(12):
            before, parts, noted = self.packing(seed)
            for fuse in range(len(noted)):
                disk = before.copied()
                trail = Trail(disk)
                disk.fuse(fuse)
                caught(trail.put, *parts)
                disk.cut((32,) * 99)
                both = Tandem(self, disk)
                if both.free() == 0:
                    seen += 1
                    told = meaning(disk)
                    both.do("put", pairs(*range(both.shape.blocks - 1), word=1), ())
                    self.assertEqual(len(both.trail.living()), len(told))
        self.assertGreater(seen, 0)


class TestWhatIsTaken(unittest.TestCase):
    def test_drawn_disks(self):
        """Long rows on disks of many sizes; the tandem compares what each packing takes, and in which order."""
        packed = 0
        for seed in range(14):
            draw = random.Random(seed)
            size = draw.choice(((6, 7), (7, 6), (8, 4), (9, 5), (10, 4), (6, 9)))
            both = tandem(self, *size, careful=False)
            top = both.shape.keys - draw.choice((0, 0, 1, 3, both.shape.keys // 3))
            for at in range(90):
                keys = sorted(draw.sample(range(top), min(top, draw.choice((1, 2, 3, size[1] - 1)))))
                before = blocks_of(both.disk)
                _, noted = both.do("put", pairs(*keys, word=at), ())
                packed += check_packing(self, both, before, noted)[1]
        self.assertGreater(packed, 100)

    def test_contents_of_all_kinds(self):
        both = filled(self, 6, 4)
        odd = ((0, content(10 ** 9)), (3, tuple(range(28))), (5, (0,) * 28))
        both.do("put", odd, ())
        for word in range(40):
            both.do("put", pairs(1, 2, word=word), ())
            both.do("put", pairs(4, word=word), ())
        self.assertEqual([(key, both.trail.read(key)) for key in (0, 3, 5)], list(odd))


class TestNumbers(unittest.TestCase):
    def test_each_group_and_each_root_takes_one(self):
        both = filled(self, 6, 4)
        for at in range(40):
            number = both.trail.next_number()
            _, noted = both.do("put", pairs(at - at // 6 * 6), ())
            shape = both.shape
            written = [block[0] for place, block in [done for done in noted if done != "force"]
                       if place < shape.start or block[1] == 1]
            self.assertEqual(written, list(range(number, number + len(written))))
            self.assertEqual(both.trail.next_number(), number + len(written))
            self.assertEqual(top_number(both.disk), number + len(written) - 1)


if __name__ == "__main__":
    unittest.main()
