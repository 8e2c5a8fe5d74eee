"""A system, and beside it what the models tell of the same deeds: answers, and each write and force."""

from keyed import KeyedModel
from reader import Reading, Shape, Trailing
from support import blocks_of, caught, watched
from trailkeep.errors import PowerCut
from trailkeep.examiner import tree_of
from trailkeep.meaning import meaning
from trailkeep.system import System, formatted

STANDING_WORDS = ("force", "root")


def state_of(system):
    return (system.picture(), system.needs(), system.handles(), system.room(), system.living(), system.done(),
            system.standing())


class Pair:
    """Does deeds on both and compares; keeps what cuts need to be judged."""

    def __init__(self, case, disk):
        self.case = case
        self.disk = watched(disk)
        self.shape = Shape(*disk.sizes()[:2])
        self.mount()

    def mount(self):
        case, disk = self.case, self.disk
        before = disk.standing(), disk.waiting()
        self.system = System(disk)
        case.assertEqual(disk.told(), [])
        case.assertEqual((disk.standing(), disk.waiting()), before)
        self.trail = Trailing(self.shape.segments, self.shape.blocks, blocks_of(disk))
        self.model = KeyedModel(self.shape.keys, self.trail.now().meaning)
        self.trail.forget(self.model.left)
        self.done, self.standing = 0, 0
        # The number of the last group behind each deed, and the picture then; at first those that were mounted.
        self.steps = [(self.trail.now().last, self.model.model.picture())]
        self.compare()

    def compare(self):
        model = self.model.model
        keys = sorted(key for keys in self.model.owned.values() for key in keys)
        self.case.assertEqual(state_of(self.system), (model.picture(), model.needs(), model.handles(), self.shape.keys,
                                                      tuple(keys), self.done, self.standing))
        self.case.assertEqual(len(keys), model.needs())
        self.case.assertEqual(self.disk.told(), [])

    def expected(self, deed):
        """The answer, and what is written."""
        answer, puts, drops = self.model.do(deed)
        self.case.assertLessEqual(len(puts), 11)
        self.case.assertLessEqual(len(puts) + len(drops), 24)
        done = self.trail.put(puts, drops)[1] if puts or drops else []
        if deed[0] in STANDING_WORDS:
            done = done + getattr(self.trail, deed[0])()[1]
        elif deed[0] == "clean":
            for segment in deed[1]:
                if segment in self.trail.having("closed"):
                    done = done + self.trail.clean((segment,))[1]
        return answer, done

    def do(self, deed):
        """Returns the answer and what was written."""
        answer = self.system.do(deed)
        noted = self.disk.told()
        expected, done = self.expected(deed)
        self.case.assertEqual(answer, expected, deed)
        self.case.assertEqual(noted, done, deed)
        self.done += 1
        if deed[0] in STANDING_WORDS:
            self.standing = self.done
        self.steps.append((self.trail.now().last, self.model.model.picture()))
        self.compare()
        return answer, noted

    def writes_of(self, deed):
        """What the deed would write, without doing it."""
        kept = self.model, self.trail
        self.model, self.trail = self.model.copied(), self.trail.copied()
        _, done = self.expected(deed)
        self.model, self.trail = kept
        return done

    def do_with_fuse(self, deed, fuse):
        """Returns whether the power failed amid the deed; then only a cut can follow."""
        self.disk.fuse(fuse)
        done = self.writes_of(deed)
        # How many calls of write and force were made.
        self.written = min(fuse, len(done))
        if len(done) <= fuse:
            self.answer, _ = self.do(deed)
            self.disk.fuse(10 ** 9)
            return False
        self.case.assertIs(caught(self.system.do, deed).__class__, PowerCut)
        self.case.assertEqual(self.disk.told(), done[:fuse])
        self.case.assertEqual(self.system.standing(), self.standing)
        return True

    def cut(self, keep):
        """Cuts and mounts anew; returns how many of the first deeds are there, the mounted state as the first one."""
        self.disk.cut(keep)
        now = Reading(self.shape, list(self.disk.standing()))
        # Just those first deeds are there whose groups are whole.
        there = max(at for at, (last, _) in enumerate(self.steps) if last <= now.last)
        picture, standing = self.steps[there][1], self.standing
        self.case.assertGreaterEqual(there, standing)
        self.mount()
        self.case.assertEqual(self.system.picture(), picture)
        self.case.assertEqual(System(self.disk.copied()).picture(), picture)
        self.case.assertEqual(tree_of(meaning(self.disk)), picture)
        return there

    def closed(self):
        return tuple(self.trail.having("closed"))


def pair(case, segments=6, blocks=12):
    return Pair(case, formatted(segments, blocks))
