"""The whole program: one tree, whichever way it is looked at; and every error with what it tells [0.2, 0.3]."""

import random
import unittest

from paired import state_of
from support import caught, content, disk_state, file_of
from test_model import Drawn
from trailkeep import errors
from trailkeep.disk import Disk, place_at
from trailkeep.errors import PowerCut
from trailkeep.examiner import blocks_of, examine, examine_holds, tree_of
from trailkeep.folders import folder_blocks, folder_entries
from trailkeep.groups import data_block
from trailkeep.images import disk_text, read_disk
from trailkeep.inodes import file_blocks, file_words, inode_content, inode_told
from trailkeep.lives import lived
from trailkeep.meaning import map_of, meaning
from trailkeep.plain import Plain, from_picture
from trailkeep.roots import judge_root, made
from trailkeep.system import System, formatted
from trailkeep.trail import Trail
from trailkeep.writers import woven

SIZES = (0, 1, 2, 28, 29, 56, 280, 336)
EMPTY = (("folder", ()),)


class Noting(System):
    """A system that notes the deeds that it was given and that were done."""

    def __init__(self, disk):
        System.__init__(self, disk)
        self.noted = []

    def do(self, deed):
        answer = System.do(self, deed)
        self.noted.append(deed)
        return answer


class TestOneTree(unittest.TestCase):
    def one(self, disk, picture):
        """What the disk means bears a tree with the picture, and so does a system on a copy, and on the text."""
        told = meaning(disk)
        self.assertEqual(tree_of(told), picture)
        system = System(disk.copied())
        self.assertEqual(system.picture(), picture)
        certificate = examine(told)
        self.assertIs(examine_holds(told, certificate), True)
        self.assertEqual(tuple(key for key, _ in certificate[1]), system.living())
        if disk.waiting() == ():
            self.assertEqual(System(read_disk(disk_text(disk))).picture(), picture)
        self.assertEqual(tree_of(blocks_of(picture)), picture)

    def test_behind_every_deed_and_every_cut(self):
        for seed in range(24):
            draw = random.Random(seed)
            drawn = Drawn(seed, draw.choice(("abc", "abcdefgh")), draw.choice((1, 2, 3)), SIZES)
            disk = formatted(*draw.choice(((6, 12), (7, 12), (6, 15))))
            for _ in range(4):
                system, plain = System(disk), from_picture(disk.sizes()[2], tree_of(meaning(disk)))
                pictures = [plain.picture()]
                for _ in range(draw.randrange(40)):
                    deed = drawn.deed() if draw.random() < 0.8 else draw.choice(
                        (("root",), ("force",), ("clean", tuple(draw.randrange(7) for _ in range(3)))))
                    self.assertEqual(system.do(deed), plain.do(deed))
                    self.assertEqual((system.picture(), system.needs(), system.handles()),
                                     (plain.picture(), plain.needs(), plain.handles()))
                    self.one(disk, plain.picture())
                    pictures.append(plain.picture())
                stood = system.standing()
                disk.cut(tuple(draw.choice((0, 32, 32, draw.randrange(33))) for _ in range(len(disk.waiting()))))
                picture = tree_of(meaning(disk))
                self.assertIn(picture, pictures[stood:])
                self.one(disk, picture)

    def test_cleaning_and_roots_never_change_it(self):
        for seed in range(10):
            draw, drawn = random.Random(seed), Drawn(seed, "abcdef", 2, SIZES)
            disk = formatted(7, 12)
            system = System(disk)
            for _ in range(60):
                system.do(drawn.deed())
            before = meaning(disk)
            for _ in range(20):
                system.do(draw.choice((("root",), ("clean", tuple(draw.sample(range(7), 3))))))
                self.assertEqual(meaning(disk), before)
                self.one(disk, system.picture())

    def test_writers_beside_the_cleaner_and_cuts(self):
        """Writers are woven with cleaning until the power fails; a first part of their deeds is there then."""
        cut_short = 0
        for seed in range(120):
            draw, drawn = random.Random(seed), Drawn(seed, "abcd", 2, SIZES)
            disk = formatted(6, 12)
            for _ in range(3):
                scripts = tuple(tuple(draw.choice((drawn.deed(), drawn.deed(), drawn.deed(), ("force",), ("root",)))
                                      for _ in range(12)) for _ in range(draw.randint(1, 4)))
                weaving = tuple(draw.choice((0, 1, 2, 3, draw.randint(-7, -1))) for _ in range(50))
                system = Noting(disk)
                plain = from_picture(22, system.picture())
                disk.fuse(draw.choice((5, 40, 150, 10 ** 6)))
                error = caught(woven, system, scripts, weaving)
                cut_short += isinstance(error, PowerCut)
                pictures = [plain.picture()]
                for deed in system.noted:
                    plain.do(deed)
                    pictures.append(plain.picture())
                disk.cut(tuple(draw.choice((0, 32, 32, 9)) for _ in range(len(disk.waiting()))))
                picture = tree_of(meaning(disk))
                self.assertIn(picture, pictures[system.standing():])
                self.one(disk, picture)
        self.assertGreater(cut_short, 60)

    def test_room_does_not_depend_on_the_past(self):
        """The same tree refuses the same deeds, whatever was written, removed, cut and cleaned before."""
        for seed in range(12):
            draw, drawn = random.Random(seed), Drawn(seed, "abcde", 2, SIZES)
            disk = formatted(6, 12)
            system = System(disk)
            for _ in range(80):
                system.do(drawn.deed())
                if draw.random() < 0.1:
                    disk.cut((32,) * draw.randrange(9))
                    system = System(disk)
            disk.force()
            picture = System(disk).picture()
            for deed in file_of(("x",), 336) + file_of(("y",), 336) + [("folder", ("z",)), ("link", ("x",), ("w",))]:
                fresh = from_picture(22, picture)
                self.assertEqual(System(disk.copied()).do(deed), fresh.do(deed))


class TestEachError(unittest.TestCase):
    """For each class a call that raises it, with the value that the document names."""

    def raised(self, name, worth, call, *parts):
        error = caught(call, *parts)
        self.assertIs(error.__class__, getattr(errors, name))
        self.assertEqual(list(vars(error).values()), [] if worth is None else [worth])
        self.found.add(name)

    def test_all_thirty(self):
        self.found = set()
        disk, trail, system, plain = made(6, 12), Trail(made(6, 12)), System(formatted(6, 12)), Plain(9)
        before = disk_state(disk), state_of(system), plain.picture()
        burnt = made(6, 12)
        burnt.fuse(0)
        self.raised("BadSize", 5, Disk, 5, 3)
        self.raised("BadPlace", -1, disk.read, -1)
        self.raised("BadBlock", (1,), disk.write, 0, (1,))
        self.raised("PowerCut", None, burnt.force)
        self.raised("BadCut", (33,), disk.cut, (33,))
        self.raised("BadNumber", -1, disk.fuse, -1)
        self.raised("BadDisk", "disk", place_at, "disk", 0, 0)
        self.raised("BadSegment", 6, place_at, disk, 6, 0)
        self.raised("BadOffset", 12, place_at, disk, 0, 12)
        self.raised("BadKey", 828, data_block, 1, 828, content(0))
        self.raised("BadContent", (), data_block, 1, 0, ())
        self.raised("BadArea", 2, judge_root, disk, 2)
        self.raised("NoRoot", None, map_of, Disk(6, 12))
        self.raised("BadPuts", ((0, 0),), trail.put, ((0, 0),), ())
        self.raised("BadDrops", (3,), trail.put, (), (3,))
        self.raised("BadSegments", (0,), trail.clean, (0,))
        self.raised("BadPolicy", "newest", trail.chosen, "newest", 1)
        self.raised("BadRoom", 0, Plain, 0)
        self.raised("BadDeed", ("forced",), system.do, ("forced",))
        self.raised("BadPicture", (), from_picture, 9, ())
        self.raised("BadInode", (1, 0, 1, (5,)), inode_content, 1, 0, 1, (5,))
        self.raised("BadInode", content(0), inode_told, content(0))
        self.raised("BadWords", [1], file_blocks, [1])
        self.raised("BadWords", (1, ()), file_words, 1, ())
        self.raised("BadEntries", (("a",),), folder_blocks, (("a",),))
        self.raised("BadEntries", (1, ()), folder_entries, 1, ())
        self.raised("BadKeyed", ((0, ()),), examine, ((0, ()),))
        self.raised("Broken", "inode", tree_of, ())
        self.raised("Broken", "inode", System, disk)
        self.raised("BadSystem", disk, woven, disk, ((),), ())
        self.raised("BadScripts", (), woven, system, (), ())
        self.raised("BadWeaving", (4,), woven, plain, ((),), (4,))
        self.raised("BadLife", ((),), lived, formatted(6, 12), ((),))
        self.raised("BadText", 1, read_disk, "")
        self.assertEqual(len(self.found), 30)
        self.assertEqual((disk_state(disk), state_of(system), plain.picture()), before)
        self.assertEqual(trail.living(), ())


if __name__ == "__main__":
    unittest.main()
