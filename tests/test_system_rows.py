"""Long rows of deeds on systems, with cleaning, roots, forces, fuses and cuts anywhere [0.2, 12.2, 12.3].

The pair compares each answer, each write and all that the system tells with a plain tree and with what the reader tells.
"""

import random
import unittest

from paired import Pair, pair
from reader import Reading
from support import file_of, names
from test_model import Drawn
from trailkeep.disk import Disk
from trailkeep.plain import from_picture
from trailkeep.system import System, formatted

SIZES = ((6, 12), (6, 12), (6, 13), (7, 12), (8, 14), (6, 24))
WORD_SIZES = (0, 0, 1, 2, 3, 27, 28, 29, 30, 56, 84, 280, 335, 336, 337)


class Row:
    def __init__(self, case, seed, many):
        self.case, self.draw = case, random.Random(seed)
        self.both = pair(case, *self.draw.choice(SIZES))
        letters, depth = self.draw.choice((("abc", 3), ("abcdefgh", 1), ("abcdefgh", 2), ("abcdefghijklmnop", 1)))
        self.drawn = Drawn(seed, letters, depth, WORD_SIZES)
        self.seen = {}
        # Deeds that come next, before others are drawn.
        self.coming = []
        if seed % 3 == 0:
            self.fill(140)
        elif seed % 3 == 1:
            self.fill(0)
        for _ in range(many):
            self.step()

    def count(self, word):
        self.seen[word] = self.seen.get(word, 0) + 1

    def fill(self, size):
        """Twelve files, or as many as there is room for."""
        for name in names(12):
            for deed in file_of((name,), size):
                if self.both.do(deed)[0] == ("refused", "room"):
                    return

    def deed(self):
        if self.coming:
            return self.coming.pop(0)
        luck = self.draw.random()
        if luck > 0.97:
            # A file that is removed while a handle holds it.
            path = (self.draw.choice(names(8)),)
            self.coming = [("write", path, 0, (3,) * 29), ("open", path), ("remove", path)]
            return ("make", path)
        if luck < 0.08:
            return ("clean", tuple(self.draw.randrange(self.both.shape.segments + 1) for _ in range(self.draw.choice((1, 2, 6)))))
        if luck < 0.1:
            return ("clean", self.both.closed())
        if luck < 0.13:
            return ("root",)
        if luck < 0.16:
            return ("force",)
        return self.drawn.deed()

    def step(self):
        both, draw = self.both, self.draw
        deed = self.deed()
        # More often where packing may come.
        if draw.random() < (0.3 if len(both.trail.having("free")) < 2 else 0.06):
            done = both.writes_of(deed)
            if both.do_with_fuse(deed, draw.randrange(len(done) + 2)):
                self.count(("power", deed[0]))
                self.count("power amid packing" if "force" in done and deed[0] not in ("force", "root") else "power")
                self.cut()
        else:
            answer, noted = both.do(deed)
            self.count((deed[0], answer[0]))
            if answer[0] == "refused":
                self.count(answer)
            if "force" in noted and deed[0] not in ("force", "root"):
                self.count("packed")
            if draw.random() < 0.03:
                self.cut()

    def cut(self):
        both, draw = self.both, self.draw
        waits = len(both.disk.waiting())
        steps, standing = len(both.steps) - 1, both.standing
        luck = draw.random()
        if luck < 0.2:
            keep = ()
        elif luck < 0.4:
            keep = (32,) * waits
        else:
            keep = tuple(draw.choice((0, 32, 32, 32, 32, draw.randrange(33))) for _ in range(draw.choice((waits, waits + 2))))
        there = both.cut(keep)
        self.count("left" if both.model.left else "nothing left")
        self.count("all kept" if there == steps else "none kept" if there <= standing else "some kept")


class TestRows(unittest.TestCase):
    def test_rows(self):
        seen = {}
        for seed in range(200):
            for word, many in Row(self, seed, 100).seen.items():
                seen[word] = seen.get(word, 0) + many
        for word in ("packed", "power", "power amid packing", "left", "all kept", "none kept", "some kept",
                     ("refused", "room"), ("refused", "crowded"), ("power", "clean"), ("power", "root"), ("power", "force")):
            self.assertGreater(seen.get(word, 0), 9, word)
        for word in "folder make write cut read list stat link rename remove open close hwrite hcut hread hstat".split():
            self.assertGreater(seen.get((word, "done"), 0), 30, word)
            self.assertGreater(seen.get((word, "refused"), 0), 3, word)

    def test_the_greatest_disk(self):
        both = pair(self, 40, 24)
        draw = random.Random(4)
        for name in names(10):
            both.do(("folder", (name,)))
        for at in range(60):
            path = (draw.choice(names(10)), draw.choice(names(12)))
            for deed in (("make", path), ("write", path, 0, (at,) * 56), ("write", path, 56, (at,) * 56)):
                both.do(deed)
        both.do(("clean", both.closed()))
        both.do(("root",))
        both.do(("rename", ("a",), ("b", "z")))
        both.cut(tuple(draw.choice((0, 32)) for _ in range(9)))
        self.assertGreater(both.system.needs(), 100)


class TestAtTheLimit(unittest.TestCase):
    """Deeds while nearly all N blocks are needed: they are refused just where the plain tree needs more than N."""

    def full(self, size, seed):
        both, draw = pair(self, *size), random.Random(seed)
        for deed in file_of(("a",), 336) + file_of(("b",), 140) + [("make", ("c",)), ("force",)]:
            both.do(deed)
        return both, draw

    def test_writing_over_and_over(self):
        """All keys live, and each deed leaves waste behind."""
        packed = 0
        for seed in range(5):
            both, draw = self.full((6, 12), seed)
            self.assertEqual(both.system.needs(), 22)
            for at in range(120):
                luck = draw.random()
                if luck < 0.1:
                    both.do(("clean", tuple(draw.sample(range(6), 3))))
                elif luck < 0.15:
                    both.cut((32,) * draw.randrange(20))
                elif luck < 0.2:
                    self.assertEqual(both.do(("make", ("d",)))[0][0], "refused")
                    self.assertEqual(both.do(("write", ("c",), 0, (1,)))[0], ("refused", "room"))
                else:
                    name = draw.choice("aab")
                    at = draw.randrange(280 if name == "a" else 84)
                    answer, noted = both.do(("write", (name,), at, tuple(draw.randrange(99) for _ in range(draw.randrange(57)))))
                    self.assertEqual(answer[0], "done")
                    packed += "force" in noted
            self.assertEqual(both.system.needs(), 22)
        self.assertGreater(packed, 50)

    def test_growing_to_the_last_block(self):
        for size in ((6, 12), (6, 13), (6, 14)):
            both = pair(self, *size)
            room = both.shape.keys
            for deed in file_of(("a",), 336) + [("make", ("b",))]:
                both.do(deed)
            words = 28 * (room - both.system.needs())
            for at in range(0, words, 28):
                self.assertEqual(both.do(("write", ("b",), at, (at,) * 28))[0], ("done", at + 28))
            self.assertEqual(both.system.needs(), room)
            self.assertEqual(both.do(("write", ("b",), words, (1,)))[0], ("refused", "room"))
            self.assertEqual(both.do(("link", ("a",), ("c",)))[0], ("done", None))
            self.assertEqual(both.do(("link", ("a",), ("d",)))[0], ("refused", "room"))
            both.do(("cut", ("b",), words - 28))
            self.assertEqual(both.do(("link", ("a",), ("d",)))[0], ("done", None))
            self.assertEqual(both.do(("write", ("b",), words - 28, (1,)))[0], ("refused", "room"))

    def test_removed_and_held(self):
        """What only handles hold needs room until they are closed."""
        both, _ = self.full((6, 12), 1)
        for deed in (("open", ("a",)), ("remove", ("a",))):
            both.do(deed)
        self.assertEqual(both.do(("write", ("c",), 0, (1,)))[0], ("refused", "room"))
        self.assertEqual(both.do(("hwrite", 0, 300, (5,) * 36))[0], ("done", 336))
        both.do(("close", 0))
        self.assertEqual(both.system.needs(), 9)
        for deed in file_of(("d",), 336):
            self.assertEqual(both.do(deed)[0][0], "done")


class TestCutsAnywhere(unittest.TestCase):
    def test_each_fuse_amid_a_row(self):
        """The same row is cut amid each of its calls; keeps lose, keep and tear; then it goes on."""
        deeds = [("folder", ("d",)), ("make", ("a",)), ("write", ("a",), 0, (5,) * 56), ("rename", ("a",), ("d", "b")),
                 ("force",), ("link", ("d", "b"), ("c",)), ("open", ("c",)), ("remove", ("c",)), ("remove", ("d", "b")),
                 ("hwrite", 0, 56, (6,) * 9), ("root",), ("make", ("e",)), ("clean", (0, 1, 2)), ("close", 0), ("remove", ("e",))]
        for fuse in range(60):
            for style in range(4):
                both = pair(self)
                draw = random.Random(60 * style + fuse)
                left = fuse
                failed = False
                for deed in deeds:
                    if both.do_with_fuse(deed, left):
                        failed = True
                        break
                    left -= both.written
                waits = len(both.disk.waiting())
                keep = ((), (32,) * waits, tuple(draw.randrange(33) for _ in range(waits)),
                        tuple(draw.choice((0, 32, 32, 31)) for _ in range(waits)))[style]
                both.cut(keep)
                for deed in deeds:
                    both.do(deed)
                both.cut(keep[::-1])
            if not failed:
                break
        self.assertFalse(failed)
        self.assertGreater(fuse, 35)

    def test_amid_packing(self):
        """A deed that packs is cut amid each of its calls."""
        seen = 0
        for seed in range(3):
            both, draw = TestAtTheLimit.full(self, (6, 12), seed)
            while True:
                deed = ("write", ("a",), draw.randrange(280), tuple(draw.randrange(99) for _ in range(56)))
                both.do(("force",))
                before = both.disk.copied()
                picture = both.system.picture()
                noted = both.do(deed)[1]
                if noted.count("force") >= 4:
                    break
            after = both.system.picture()
            for fuse in range(len(noted) + 1):
                for style in range(3):
                    other = Pair(self, before)
                    failed = other.do_with_fuse(deed, fuse)
                    self.assertEqual(failed, fuse < len(noted))
                    waits = len(other.disk.waiting())
                    other.cut(((), (32,) * waits, tuple(draw.choice((0, 32, 32, 7)) for _ in range(waits)))[style])
                    if failed:
                        self.assertNotEqual(other.system.picture(), after)
                    for at in range(5):
                        other.do(("write", ("a",), at * 50, (at,) * 56))
                    seen += failed
            self.assertNotEqual(picture, after)
        self.assertGreater(seen, 100)

    def test_days_without_a_force(self):
        """Nothing is forced but what packing forces; a cut loses the rest."""
        for seed in range(6):
            both, draw = TestAtTheLimit.full(self, (6, 12), seed)
            both.do(("force",))
            for _ in range(8):
                for _ in range(draw.randrange(30)):
                    both.do(("write", ("ab"[draw.randrange(2)],), draw.randrange(140), (draw.randrange(99),) * 56))
                both.cut(())


class TestMountingTwice(unittest.TestCase):
    def test_at_any_moment(self):
        for seed in range(10):
            draw, drawn = random.Random(seed), Drawn(seed, "abcd", 2, WORD_SIZES)
            disk = formatted(6, 12)
            system = System(disk)
            for at in range(60):
                system.do(drawn.deed())
                if draw.random() < 0.2:
                    disk.cut(tuple(draw.choice((0, 32, 32, 9)) for _ in range(len(disk.waiting()))))
                    before = disk.standing(), disk.waiting()
                    told = []
                    for _ in range(2):
                        system = System(disk)
                        told.append((system.picture(), system.needs(), system.living(), system.handles(), system.done()))
                    self.assertEqual(told[0], told[1])
                    self.assertEqual((disk.standing(), disk.waiting()), before)
                    self.assertEqual(from_picture(22, told[0][0]).needs(), told[0][1])

    def test_on_a_blank_disk_of_its_own(self):
        """The same blocks on another disk mean the same."""
        both = pair(self)
        for deed in file_of(("a",), 60) + [("force",)]:
            both.do(deed)
        other = Disk(6, 12)
        for place, block in enumerate(both.disk.standing()):
            other.write(place, block)
        other.force()
        self.assertEqual(System(other).picture(), both.system.picture())
        self.assertEqual(Reading(both.shape, list(other.standing())).meaning, both.trail.now().meaning)


if __name__ == "__main__":
    unittest.main()
