"""Long rows of all calls of a trail, with fuses and cuts anywhere, beside what the reader tells of them [0.2, 6 to 8]."""

import random
import unittest

from reader import Reading, Shape
from support import blocks_of, caught, pairs
from tandem import Tandem
from trailkeep.errors import PowerCut
from trailkeep.meaning import meaning
from trailkeep.roots import made

SIZES = ((6, 4), (6, 4), (6, 5), (7, 4), (6, 8), (8, 6), (10, 4), (6, 12))


class Row:
    def __init__(self, case, seed):
        self.case, self.draw = case, random.Random(seed)
        self.both = Tandem(case, made(*self.draw.choice(SIZES)), careful=seed < 8)
        self.keys = range(max(2, int(self.both.shape.keys * self.draw.choice((0.3, 0.7, 1, 1)))))
        self.seen = {}

    def sample(self, things, most):
        return tuple(sorted(self.draw.sample(things, min(len(things), self.draw.randrange(most + 1)))))

    def call(self):
        """A word and its arguments."""
        draw, living = self.draw, self.both.trail.living()
        luck = draw.random()
        if luck < 0.6:
            put = self.sample(self.keys, self.both.shape.blocks - 1)
            drops = self.sample([key for key in living if key not in put], draw.choice((0, 0, 1, 5)))[:24 - len(put)]
            return ("put", pairs(*put, word=draw.randrange(10 ** 9)), drops) if put or drops else ("force",)
        if luck < 0.63:
            return "forget", self.sample(living, 2)
        if luck < 0.7:
            return ("force",)
        if luck < 0.78:
            return ("root",)
        if luck < 0.92:
            return "clean", self.sample(self.both.closed(), 4)
        return "chosen", draw.choice(("emptiest", "fullest", "oldest", "first")), draw.randrange(6)

    def count(self, word):
        self.seen[word] = self.seen.get(word, 0) + 1

    def step(self):
        both, draw = self.both, self.draw
        call = self.call()
        before, forgotten = meaning(both.disk), set(both.model.forgotten)
        if draw.random() < 0.1:
            both.disk.fuse(draw.randrange(9))
            error = caught(getattr(both.trail, call[0]), *call[1:])
            both.disk.told()
            self.power_fails(call, before, forgotten, error)
        else:
            answer, noted = both.do(*call)
            self.count(call[0] + " packed" if "force" in noted and call[0] == "put" else call[0])
            self.count((call[0], answer))
            if draw.random() < 0.05:
                self.cut([meaning(both.disk)], forgotten)

    def power_fails(self, call, before, forgotten, error):
        """Perhaps the call was done before that; then there is a cut, or a new trail goes on with what waits."""
        after = dict(before)
        if call[0] == "put":
            after.update(dict(call[1]))
            for key in call[2]:
                del after[key]
        self.case.assertIn(error.__class__, (PowerCut, None.__class__))
        self.count("fuse " + call[0] if error else "no fuse")
        roots_wait = any(place < self.both.shape.start for place, _ in self.both.disk.waiting())
        if error and not roots_wait and not forgotten and self.draw.random() < 0.4:
            self.both.disk.fuse(10 ** 9)
            self.both.mount()
            self.case.assertIn(meaning(self.both.disk), (before, tuple(sorted(after.items()))))
            self.count("mounted without a cut")
        else:
            self.cut([before, tuple(sorted(after.items()))], forgotten | set(call[1] if call[0] == "forget" else ()))

    def cut(self, more, forgotten):
        """What is meant then is what was meant behind some group of the road, or amid the last call."""
        both, draw = self.both, self.draw
        blocks, waits = blocks_of(both.disk), len(both.disk.waiting())
        groups = len(Reading(both.shape, blocks).road)
        steps = more + [Reading(both.shape, blocks, at).meaning for at in range(groups + 1)]
        both.disk.cut(tuple(draw.choice((0, 32, 32, draw.randrange(33))) for _ in range(draw.choice((0, waits, waits + 2)))))
        found = self.without(meaning(both.disk), forgotten)
        self.case.assertIn(found, [self.without(step, forgotten) for step in steps])
        both.mount()
        self.count("cut")

    @staticmethod
    def without(told, forgotten):
        return tuple((key, content) for key, content in told if key not in forgotten)


class TestRows(unittest.TestCase):
    def test_rows(self):
        seen = {}
        for seed in range(200):
            row = Row(self, seed)
            for _ in range(60):
                row.step()
            for word, many in row.seen.items():
                seen[word] = seen.get(word, 0) + many
        for word in ("put", "put packed", "forget", "force", "root", "clean", "chosen", "cut", "fuse put", "fuse clean",
                     "fuse root", "mounted without a cut", ("clean", True), ("clean", False)):
            self.assertGreater(seen.get(word, 0), 9, word)

    def test_shapes_of_the_reader(self):
        """The numbers that the reader works with are those of the disks."""
        for size in SIZES + ((40, 24), (23, 17)):
            shape, disk = Shape(*size), made(*size)
            self.assertEqual((*size, shape.keys, shape.area), disk.sizes())
            self.assertEqual(shape.many, disk.many())


if __name__ == "__main__":
    unittest.main()
