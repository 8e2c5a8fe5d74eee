"""Lives: days of deeds, each with a fuse and a cut [15.1, 15.2]."""

import random
import unittest

from broken import WRONG, disk_bearing
from paired import Pair
from support import STRANGE, bent, caught, disk_state, file_of
from test_is_deed import DEEDS, wrong_deeds
from test_model import Drawn
from trailkeep.disk import Disk
from trailkeep.errors import BadDisk, BadLife, Broken, NoRoot, PowerCut
from trailkeep.lives import is_life, lived
from trailkeep.plain import from_picture
from trailkeep.roots import made
from trailkeep.system import System, formatted
from trailkeep.trail import Trail

EMPTY = (("folder", ()),)
WITH_A = (("folder", (("a", 1),)), ("file", ()))
MAKE_A = ("make", ("a",))
DONE = ("done", None)


class TestDays(unittest.TestCase):
    def test_without_days(self):
        disk = formatted(6, 12)
        disk.fuse(0)
        before = disk_state(disk)
        self.assertEqual(lived(disk, ()), ())
        self.assertEqual(disk_state(disk), before)
        self.assertIs(caught(disk.force).__class__, PowerCut)

    def test_one_day(self):
        for deeds, keep, expected in (
                ((), (), ((), EMPTY, 0)),
                ((MAKE_A,), (), ((DONE,), EMPTY, 0)),
                ((MAKE_A,), (32,) * 4, ((DONE,), WITH_A, 0)),
                ((MAKE_A,), (32,) * 3 + (31,), ((DONE,), EMPTY, 0)),
                ((MAKE_A,), (0,), ((DONE,), EMPTY, 0)),
                ((MAKE_A, ("force",)), (), ((DONE, DONE), WITH_A, 2)),
                ((MAKE_A, ("root",), ("remove", ("a",))), (), ((DONE,) * 3, WITH_A, 2)),
                ((MAKE_A, ("root",), ("remove", ("a",))), (32,) * 40, ((DONE,) * 3, EMPTY, 2)),
                ((MAKE_A, MAKE_A, ("force",), ("list", ())), (),
                 ((DONE, ("refused", "there"), DONE, ("done", ("a",))), WITH_A, 3))):
            disk = formatted(6, 12)
            self.assertEqual(lived(disk, ((deeds, None, keep),)), (expected,))
            self.assertEqual(disk.waiting(), ())
            self.assertEqual(System(disk).picture(), expected[1])

    def test_by_name(self):
        self.assertEqual(lived(life=(((MAKE_A,), None, ()),), disk=formatted(6, 12)), (((DONE,), EMPTY, 0),))

    def test_a_fuse(self):
        """Making a file takes four writes, and a force one call more."""
        deeds = (MAKE_A, ("force",), ("make", ("b",)))
        for fuse, answers, picture, stood in (
                (0, 0, EMPTY, 0), (3, 0, EMPTY, 0), (4, 1, EMPTY, 0), (5, 2, WITH_A, 2), (6, 2, WITH_A, 2), (8, 2, WITH_A, 2),
                (9, 3, WITH_A, 2), (100, 3, WITH_A, 2)):
            record, = lived(formatted(6, 12), ((deeds, fuse, ()),))
            self.assertEqual(record, ((DONE,) * answers, picture, stood), fuse)
        record, = lived(formatted(6, 12), ((deeds, 4, (32,) * 4),))
        self.assertEqual(record, ((DONE,), WITH_A, 0))
        record, = lived(formatted(6, 12), ((deeds, 3, (32,) * 4),))
        self.assertEqual(record, ((), EMPTY, 0))

    def test_deeds_that_do_not_touch_the_disk_need_no_power(self):
        record, = lived(formatted(6, 12), (((("list", ()), ("remove", ("x",)), MAKE_A, ("list", ())), 0, ()),))
        self.assertEqual(record, ((("done", ()), ("refused", "no path")), EMPTY, 0))

    def test_a_fuse_that_the_disk_has(self):
        """On the first day it stays if the day has none; the cut in the evening takes it away."""
        deeds = (MAKE_A, ("make", ("b",)))
        day = (deeds, None, (32,) * 9)
        for fuse, answers in ((0, 0), (4, 1), (8, 2)):
            disk = formatted(6, 12)
            disk.fuse(fuse)
            first, second = lived(disk, (day, day))
            self.assertEqual((len(first[0]), len(second[0])), (answers, 2))
        disk = formatted(6, 12)
        disk.fuse(0)
        self.assertEqual(lived(disk, ((deeds, 100, ()),))[0][0], (DONE, DONE))
        for _ in range(200):
            disk.force()

    def test_days_go_on_from_one_another(self):
        disk = formatted(6, 12)
        first = (MAKE_A, ("write", ("a",), 0, (5,)), ("force",), ("open", ("a",)), ("remove", ("a",)), ("force",))
        second = (("hread", 0, 0, 9), ("list", ()), MAKE_A, ("read", ("a",), 0, 9))
        records = lived(disk, ((first, None, ()), (second, None, ()), ((("list", ()), ("root",)), None, ())))
        self.assertEqual([record[0][:2] for record in records],
                         [(DONE, ("done", 1)), (("refused", "no handle"), ("done", ())), (("done", ()), DONE)])
        self.assertEqual([record[1] for record in records], [EMPTY] * 3)
        self.assertEqual([record[2] for record in records], [6, 0, 2])

    def test_a_life_in_parts(self):
        """A life of several days is the same as its days one by one, and as the same life on a copy."""
        for seed in range(10):
            life = drawn_life(random.Random(seed), seed, 4)
            disk, other = formatted(6, 12), formatted(6, 12)
            records = lived(disk, life)
            self.assertEqual(lived(formatted(6, 12), life), records)
            self.assertEqual(tuple(lived(other, (day,))[0] for day in life), records)
            self.assertEqual(disk_state(disk), disk_state(other))


def drawn_life(draw, seed, days, size=(6, 12)):
    letters, depth = draw.choice((("abc", 2), ("abcdefgh", 1), ("abcdefgh", 2)))
    drawn = Drawn(seed, letters, depth, (0, 1, 2, 28, 29, 56, 280, 336))
    found = []
    for _ in range(days):
        deeds = [drawn.deed() for _ in range(draw.choice((0, 3, 10, 40)))]
        for _ in range(len(deeds) // 6):
            other = draw.choice((("force",), ("root",), ("clean", tuple(draw.randrange(size[0] + 1) for _ in range(3)))))
            deeds.insert(draw.randrange(len(deeds)), other)
        keep = tuple(draw.choice((0, 32, 32, 32, draw.randrange(33))) for _ in range(draw.choice((0, 5, 60))))
        keep = draw.choice((keep, keep, (32,) * len(keep)))
        found.append((tuple(deeds), draw.choice((None, None, draw.randrange(30), draw.randrange(120))), keep))
    return tuple(found)


class TestGuarantee(unittest.TestCase):
    def live_beside(self, disk, life):
        """Lives the life with a pair, which tells what is there after each cut exactly."""
        both = Pair(self, disk)
        records = []
        for deeds, fuse, keep in life:
            answers, left = [], 10 ** 9 if fuse is None else fuse
            for deed in deeds:
                if both.do_with_fuse(deed, left):
                    break
                left -= both.written
                answers.append(both.answer)
            stood, done = both.standing, both.done
            there = both.cut(keep)
            self.assertLessEqual(stood, there)
            self.assertLessEqual(there, done)
            records.append((tuple(answers), both.system.picture(), stood))
        return tuple(records), both

    def check_days(self, life, records, room):
        """What [15.2] says, with a plain tree alone."""
        picture = EMPTY
        for (deeds, _, _), (answers, evening, stood) in zip(life, records, strict=True):
            plain = from_picture(room, picture)
            pictures = [plain.picture()]
            for deed, answer in zip(deeds, answers):
                self.assertEqual(plain.do(deed), answer)
                pictures.append(plain.picture())
            self.assertIn(evening, pictures[stood:])
            picture = evening

    def test_drawn_lives(self):
        cut_short, standing = 0, 0
        for seed in range(110):
            draw = random.Random(seed)
            size = draw.choice(((6, 12), (6, 12), (7, 13), (6, 24)))
            life = drawn_life(draw, seed, draw.randint(1, 8), size)
            self.assertIs(is_life(life), True)
            disk = formatted(*size)
            records = lived(disk, life)
            expected, both = self.live_beside(formatted(*size), life)
            self.assertEqual(records, expected)
            self.assertEqual(disk_state(disk), disk_state(both.disk))
            self.check_days(life, records, disk.sizes()[2])
            cut_short += sum(len(record[0]) < len(day[0]) for day, record in zip(life, records))
            standing += sum(record[2] > 0 for record in records)
        self.assertGreater(min(cut_short, standing), 40)

    def test_each_fuse(self):
        """A day that fills the disk, packs it, cleans it and writes roots; its fuse goes amid any of the calls."""
        deeds = file_of(("a",), 336) + file_of(("b",), 112)
        deeds += [("write", ("a",), at % 6 * 50, (at,) * 56) for at in range(12)] + [("clean", (0, 1, 2, 3)), ("root",)]
        deeds += [("write", ("b",), 0, (7,) * 56), ("force",), ("write", ("a",), 0, (8,) * 56)]
        first = tuple(deeds[:12])
        life = ((tuple(file_of(("a",), 300)) + (("force",),), None, ()),)
        for fuse in range(400):
            draw = random.Random(fuse)
            keep = draw.choice(((), (32,) * 60, tuple(draw.choice((0, 32, 32, 5)) for _ in range(60))))
            days = life + ((tuple(deeds), fuse, keep), (first, None, (32,) * 99))
            disk = formatted(6, 12)
            records = lived(disk, days)
            self.check_days(days, records, 22)
            if fuse % 4 == 0:
                self.assertEqual(records, self.live_beside(formatted(6, 12), days)[0])
            if len(records[1][0]) == len(deeds):
                break
        self.assertEqual(len(records[1][0]), len(deeds))
        self.assertGreater(fuse, 150)


class TestKinds(unittest.TestCase):
    right = ((MAKE_A, ("hwrite", 0, 0, (5,))), 3, (0, 32, 1))

    def test_right(self):
        for thing in ((), (((), None, ()),), (((), 0, ()),), (self.right,), (self.right,) * 9,
                      ((tuple(DEEDS), 10 ** 39, (32,) * 99),)):
            self.assertIs(is_life(thing), True)
            self.assertIs(is_life(thing=thing), True)

    def wrong(self):
        deeds, fuse, keep = self.right
        wrong = [[], {}, None, 0, "", ((),), (None,), self.right, [self.right], (list(self.right),), (self.right[:2],),
                 (self.right + ((),),), (self.right, None), ((list(deeds), fuse, keep),), ((deeds[0], fuse, keep),),
                 (((None,), fuse, keep),), ((None, fuse, keep),), (("force", None, ()),), ((("force",), None, ()),)]
        wrong += [((deeds, thing, keep),) for thing in (-1, True, False, "0", "", (), (1,), [1], {}, 1 - 10 ** 40)]
        wrong += [((deeds, fuse, thing),) for thing in (None, 0, (33,), (-1,), (True,), (0, False), (None,), ("0",), ((0,),), [0],
                                                        [], {}, "", (32, 10 ** 9))]
        wrong += [(((deed,), fuse, keep),) for deed in wrong_deeds()]
        parts = bent((self.right,))
        # A fuse of None is none, and right.
        return wrong + [thing for thing in parts + list(STRANGE) if thing not in ((), ((deeds, None, keep),))]

    def test_wrong(self):
        for thing in self.wrong():
            self.assertIs(is_life(thing), False, thing)

    def test_a_wrong_life_changes_nothing(self):
        disk = formatted(6, 12)
        System(disk).do(MAKE_A)
        disk.force()
        disk.fuse(7)
        before = disk_state(disk)
        for thing in self.wrong() + [(self.right, ((), -1, ())), (self.right, self.right, None)]:
            error = caught(lived, disk, thing)
            self.assertIs(error.__class__, BadLife)
            self.assertIs(error.thing, thing)
        self.assertEqual(disk_state(disk), before)
        for _ in range(7):
            disk.force()
        self.assertIs(caught(disk.force).__class__, PowerCut)

    def test_errors_in_their_order(self):
        for thing in STRANGE + (System(formatted(6, 12)), Trail(formatted(6, 12)), None):
            if not isinstance(thing, Disk):
                for life in ((), None, thing, (self.right,)):
                    error = caught(lived, thing, life)
                    self.assertIs(error.__class__, BadDisk)
                    self.assertIs(error.thing, thing)
        for life in ((), None, (self.right,)):
            disk = Disk(6, 12)
            before = disk_state(disk)
            self.assertIs(caught(lived, disk, life).__class__, NoRoot)
            self.assertEqual(disk_state(disk), before)
            self.assertEqual(caught(lived, made(6, 12), life).kind, "inode")
            for kind, _, blocks in WRONG[::4]:
                disk = disk_bearing(blocks)
                before = disk_state(disk)
                error = caught(lived, disk, life)
                self.assertEqual((error.__class__, error.kind), (Broken, kind))
                self.assertEqual(disk_state(disk), before)

    def test_lists_stay(self):
        thing = [[MAKE_A], None, [0, {"a": [1]}]]
        self.assertIs(is_life(thing), False)
        self.assertIs(caught(lived, formatted(6, 12), thing).thing, thing)
        self.assertEqual(thing, [[MAKE_A], None, [0, {"a": [1]}]])


if __name__ == "__main__":
    unittest.main()
