"""Cleaning, and the segments that a policy chooses [7.1 to 7.3]."""

import itertools
import random
import unittest

from laying import put_root
from reader import Reading, group_blocks
from support import blocks_of, caught, content, pairs, trail_state, watched
from tandem import Tandem, tandem
from trailkeep.disk import Disk, place_at
from trailkeep.errors import PowerCut
from trailkeep.meaning import meaning
from trailkeep.roots import made
from trailkeep.trail import Trail

POLICIES = ("emptiest", "fullest", "oldest", "first")


def subsets(things):
    return [found for many in range(len(things) + 1) for found in itertools.combinations(things, many)]


def drawn_trail(case, seed, size=None):
    """A tandem behind drawn puts, drops and roots, nothing of which waits."""
    draw = random.Random(seed)
    both = tandem(case, *(size or draw.choice(((6, 4), (7, 5), (8, 4), (9, 6), (12, 4)))), careful=False)
    keys = range(both.shape.keys * draw.randrange(3, 11) // 10)
    for _ in range(draw.randrange(2, 14)):
        put = sorted(draw.sample(keys, min(len(keys), draw.randrange(1, both.shape.blocks))))
        living = [key for key in both.trail.living() if key not in put]
        drops = sorted(draw.sample(living, min(len(living), draw.choice((0, 0, 1, 2)))))
        both.do("put", pairs(*put, word=draw.randrange(99)), tuple(drops))
        if draw.random() < 0.2:
            both.do("root")
    both.do("force")
    return both


class TestCleaning(unittest.TestCase):
    def test_each_write(self):
        disk = watched(made(8, 4))
        trail = Trail(disk)
        trail.put(pairs(5, 8, 9), ())
        trail.put(pairs(0, 3), ())
        trail.put((), (9,))
        trail.put(pairs(7), ())
        disk.told()
        start = place_at(disk, 0, 0)
        self.assertEqual(trail.states()[:4], ("closed", "closed", "current", "beyond"))
        self.assertIs(trail.clean(segments=(0, 1)), True)
        moved = {key: (key,) + (5,) * 27 for key in (0, 3, 5, 8)}
        # Four keys: three of them do not fit behind the head, so a whole segment, and then the last one.
        first = group_blocks(6, 5, 4, [(key, moved[key]) for key in (0, 3, 5)], ())
        second = group_blocks(7, 6, 5, [(8, moved[8])], ())
        expected = [(start + 12 + at, block) for at, block in enumerate(first)]
        expected += [(start + 16 + at, block) for at, block in enumerate(second)]
        self.assertEqual(disk.told(), expected)
        self.assertEqual(trail.uses(), (0, 0, 1, 3, 1, 0, 0, 0))
        self.assertEqual(trail.states(), ("closed",) * 4 + ("current", "beyond", "free", "free"))
        trail.root()
        # Segment 2 has a living key, and 3 has three.
        self.assertEqual(trail.states(), ("free", "free", "closed", "closed", "current", "beyond", "free", "free"))

    def test_into_the_current_segment(self):
        both = tandem(self, 6, 6)
        both.do("put", pairs(0, 1, 2, 3, 4), ())
        both.do("put", pairs(0, 1, 2), ())
        answer, noted = both.do("clean", (0,))
        # The keys 3 and 4 need three blocks, and the current segment has two.
        self.assertEqual([answer, len(noted), both.trail.head()], [True, 3, (2, 3)])
        both.do("put", pairs(0), (1, 2))
        answer, noted = both.do("clean", (1,))
        self.assertEqual([answer, noted], [True, []])
        both.do("clean", (0, 1))
        both.do("root")
        self.assertEqual(both.trail.states(), ("free", "free", "current", "beyond", "free", "free"))
        both.do("put", pairs(6, 7, 8, 9), ())
        both.do("put", (), (6, 8, 9))
        self.assertEqual([both.trail.head(), both.trail.uses()], [(3, 6), (0, 0, 3, 1, 0, 0)])
        both.do("put", pairs(3), ())
        answer, noted = both.do("clean", (2, 3))
        # One segment after the other would need two groups; together they are one.
        self.assertEqual([answer, [block[1] for _, block in noted]], [True, [1, 2, 2, 2]])

    def test_nothing_to_move(self):
        both = tandem(self, 6, 4)
        self.assertEqual(both.do("clean", ()), (True, []))
        for word in range(4):
            both.do("put", pairs(0, 1, 2, word=word), ())
        self.assertEqual([both.free(), both.closed()], [1, (0, 1, 2)])
        # Though there are fewer than two free segments.
        for segments in subsets((0, 1, 2)):
            self.assertEqual(both.do("clean", segments), (True, []))
        self.assertEqual(both.trail.states()[:3], ("closed",) * 3)
        both.do("root")
        self.assertEqual(both.trail.states()[:3], ("free",) * 3)

    def test_when_it_is_done(self):
        """Each number of keys beside each number of free segments."""
        seen = set()
        for keys, waste in itertools.product(range(1, 13), range(1, 7)):
            both = tandem(self, 10, 4, careful=False)
            for first in range(0, keys, 3):
                both.do("put", pairs(*range(first, min(first + 3, keys))), ())
            for word in range(waste):
                both.do("put", pairs(15, 16, 17, word=word), ())
            segments = tuple(range((keys + 2) // 3))
            if segments[-1] not in both.closed():
                continue
            free, full = both.free(), both.shape.blocks - 1
            answer, noted = both.do("clean", segments)
            self.assertIs(answer, free >= 2 + keys // full)
            self.assertEqual(bool(noted), answer)
            seen.add((answer, free - 2 - keys // full, keys - keys // full * full))
            if answer:
                self.assertEqual([both.trail.uses()[segment] for segment in segments], [0] * len(segments))
                both.do("root")
                self.assertEqual({both.trail.states()[segment] for segment in segments}, {"free"})
        for rest in range(3):
            self.assertIn((True, 0, rest), seen)
            self.assertIn((False, -1, rest), seen)

    def test_each_choice(self):
        """All choices of closed segments: the tandem compares the writes; use, states and meaning are looked at here."""
        counts = {True: 0, False: 0}
        for seed in range(25):
            both = drawn_trail(self, seed)
            before = both.disk.copied()
            for segments in subsets(both.closed()):
                other = Tandem(self, before, careful=seed < 5)
                told, states = meaning(before), trail_state(other.trail)
                answer, noted = other.do("clean", segments)
                counts[answer] += 1
                self.assertEqual(meaning(other.disk), told)
                moved = sum(states[5][segment] for segment in segments)
                if not answer:
                    self.assertEqual([noted, trail_state(other.trail)], [[], states])
                    continue
                self.assertEqual(len(noted), moved + -(-moved // (both.shape.blocks - 1)))
                self.assertEqual(sum(other.trail.uses()[segment] for segment in segments), 0)
                self.assertLessEqual(set(segments), set(other.closed()))
                other.do("root")
                self.assertEqual({other.trail.states()[segment] for segment in segments} - {"free"}, set())
                self.assertEqual(meaning(other.disk), told)
        self.assertGreater(min(counts.values()), 20)

    def test_contents_of_all_kinds(self):
        both = tandem(self, 6, 4)
        odd = ((0, content(10 ** 9)), (1, (0,) * 28), (2, tuple(range(28))))
        both.do("put", odd, ())
        both.do("put", pairs(3, 4), ())
        self.assertEqual(both.do("clean", (0,))[0], True)
        self.assertEqual([(key, both.trail.read(key)) for key in range(3)], list(odd))


class TestCutsAmidCleaning(unittest.TestCase):
    def keeps(self, draw, many):
        return [(), (32,) * many] + [tuple(draw.choice((0, 32, draw.randrange(33))) for _ in range(many)) for _ in range(3)]

    def test_when_nothing_waited(self):
        amid = 0
        for seed in range(30):
            both = drawn_trail(self, seed)
            before = both.disk.copied()
            told = meaning(before)
            choices = subsets(both.closed())[1:]
            for segments in random.Random(seed).sample(choices, min(len(choices), 4)):
                for fuse in range(12):
                    disk = before.copied()
                    trail = Trail(disk)
                    disk.fuse(fuse)
                    if caught(trail.clean, segments).__class__ == PowerCut:
                        amid += 1
                    for keep in self.keeps(random.Random(fuse), len(disk.waiting())):
                        other = disk.copied()
                        other.cut(keep)
                        self.assertEqual(meaning(other), told)
                        self.assertEqual(trail_state(Trail(other))[0], tuple(key for key, _ in told))
        self.assertGreater(amid, 60)

    def test_when_groups_waited(self):
        """Then the disk means what it meant behind some of them, or all."""
        for seed in range(40):
            draw = random.Random(seed)
            both = drawn_trail(self, seed)
            both.do("root")
            for at in range(3):
                both.do("put", pairs(at, word=100 + at), ())
            if both.disk.waiting()[:1] != () and both.closed():
                steps = [Reading(both.shape, blocks_of(both.disk), at).meaning for at in range(4)]
                both.do("clean", tuple(draw.sample(both.closed(), 1)))
                for keep in self.keeps(draw, len(both.disk.waiting())):
                    other = both.disk.copied()
                    other.cut(keep)
                    self.assertIn(meaning(other), steps)
                both.disk.cut((32,) * 99)
                self.assertEqual(meaning(both.disk), steps[-1])


class TestPolicies(unittest.TestCase):
    def trail(self):
        """Closed segments 0 to 3 with the uses 2, 3, 2, 1; segment 0 was free once, and has the newest groups."""
        trail = Trail(made(8, 4))
        for keys in ((0, 1, 2), (3, 4, 5), (0, 1, 2)):
            trail.put(pairs(*keys), ())
        trail.root()
        for keys in ((6, 7, 8), (9, 10, 11), (0,)):
            trail.put(pairs(*keys), ())
        trail.put((), (6, 7, 9))
        self.assertEqual(trail.uses(), (2, 3, 2, 1, 1, 0, 0, 0))
        self.assertEqual(trail.states(), ("closed",) * 4 + ("current", "beyond", "free", "free"))
        return trail

    def test_their_orders(self):
        orders = {"emptiest": (3, 0, 2, 1), "fullest": (1, 0, 2, 3), "oldest": (1, 2, 3, 0), "first": (0, 1, 2, 3)}
        trail = self.trail()
        for policy, order in orders.items():
            for many in (0, 1, 2, 3, 4, 5, 99, 10 ** 40 - 1):
                for _ in range(2):
                    found = trail.chosen(policy, many)
                    self.assertEqual(found, tuple(sorted(order[:many])), (policy, many))
                    self.assertIs(found.__class__, tuple)

    def test_the_greatest_first_word(self):
        """Not the last words, nor those of the first blocks alone."""
        for words, order in ((((1, 1), (2, 2), (3, 3)), (0, 1, 2)), (((3, 0), (1, 9), (2, 8)), (1, 2, 0)),
                             (((5, 5), (5, 9), (4, 9)), (2, 0, 1)), (((9, 9), (0, 0), (10, 10)), (1, 0, 2))):
            for offset in range(4):
                disk = Disk(7, 4)
                start = place_at(disk, 0, 0)
                put_root(disk, 0, 1, (3, 0), 4, 0, k0=start, k1=start + 4, k2=start + 8)
                for segment, (first, last) in enumerate(words):
                    disk.write(place_at(disk, segment, offset), (first,) + (7,) * 30 + (last,))
                for many in range(1, 4):
                    self.assertEqual(Trail(disk).chosen("oldest", many), tuple(sorted(order[:many])))

    def test_no_closed_ones(self):
        for policy in POLICIES:
            for many in (0, 1, 9):
                self.assertEqual(Trail(made(6, 4)).chosen(policy, many), ())

    def test_drawn_trails(self):
        for seed in range(40):
            both = drawn_trail(self, seed, (10, 4))
            for policy in POLICIES:
                for many in range(len(both.closed()) + 2):
                    both.do("chosen", policy, many)


if __name__ == "__main__":
    unittest.main()
