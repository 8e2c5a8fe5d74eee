"""Blocks of files that were removed while handles held them: mounting forgets them [11.3]."""

import unittest

from broken import RIGHT, changed, disk_bearing
from keyed import inode, leading_to
from paired import Pair, pair
from support import content, file_of
from trailkeep.examiner import examine
from trailkeep.meaning import meaning
from trailkeep.roots import judge_root, newer_root
from trailkeep.system import System
from trailkeep.trail import Trail


def rooted(disk):
    """The keys that the newer root has."""
    return tuple(key for key, place in enumerate(judge_root(disk, newer_root(disk))[6]) if place is not None)


def meant(disk):
    return tuple(key for key, _ in meaning(disk))


class TestUnused(unittest.TestCase):
    def removed(self):
        """A file with 60 words was removed while a handle held it; the handle is gone."""
        both = pair(self)
        for deed in file_of(("a",), 60) + [("make", ("b",)), ("open", ("a",)), ("remove", ("a",))]:
            both.do(deed)
        self.assertEqual(both.system.living(), (0, 1, 2, 3, 4, 5, 6))
        self.assertEqual(both.system.needs(), 7)
        both.do(("force",))
        both.cut(())
        return both

    def test_they_are_not_living(self):
        both = self.removed()
        self.assertEqual(both.system.living(), (0, 2, 6))
        self.assertEqual(both.system.needs(), 3)
        self.assertEqual(both.model.left, (1, 3, 4, 5))
        # They are still meant by the disk, but belong to no tree.
        self.assertEqual(meant(both.disk), (0, 1, 2, 3, 4, 5, 6))
        self.assertEqual(examine(meaning(both.disk))[2], (1, 3, 4, 5))
        self.assertEqual(System(both.disk).living(), (0, 2, 6))
        self.assertEqual(both.disk.told(), [])

    def test_their_keys_are_free(self):
        both = self.removed()
        both.do(("make", ("c",)))
        both.do(("write", ("c",), 0, (8,) * 56))
        self.assertEqual(both.system.living(), (0, 1, 2, 3, 4, 6))
        told = dict(meaning(both.disk))
        self.assertEqual([told[1], told[3], told[4]], [inode(1, 56, 1, (3, 4)), content(8), content(8)])
        # Only the last one is still unused.
        self.assertEqual(examine(meaning(both.disk))[2], (5,))

    def test_the_next_root_is_without_them(self):
        both = self.removed()
        self.assertEqual(rooted(both.disk), ())
        both.do(("root",))
        self.assertEqual(rooted(both.disk), (0, 2, 6))
        self.assertEqual(meant(both.disk), (0, 2, 6))
        self.assertEqual(both.system.living(), Trail(both.disk).living())
        both.cut(())
        self.assertEqual(both.model.left, ())

    def test_a_root_before_the_cut_has_them(self):
        both = pair(self)
        for deed in file_of(("a",), 60) + [("open", ("a",)), ("remove", ("a",)), ("root",)]:
            both.do(deed)
        self.assertEqual(rooted(both.disk), (0, 1, 3, 4, 5))
        both.cut(())
        self.assertEqual(both.system.living(), (0,))
        both.do(("root",))
        self.assertEqual(rooted(both.disk), (0,))

    def test_they_come_back_only_as_unused(self):
        """What was written over them is lost in a cut: then they are there again, and are forgotten again."""
        both = self.removed()
        both.do(("make", ("c",)))
        self.assertEqual(both.cut(()), 0)
        self.assertEqual((both.model.left, both.system.living()), ((1, 3, 4, 5), (0, 2, 6)))
        both.do(("make", ("c",)))
        self.assertEqual(both.cut((32,) * 9), 1)
        self.assertEqual((both.model.left, both.system.living()), ((3, 4, 5), (0, 1, 2, 6)))

    def test_a_closed_handle_leaves_nothing(self):
        both = pair(self)
        for deed in file_of(("a",), 60) + [("open", ("a",)), ("remove", ("a",)), ("close", 0), ("force",)]:
            both.do(deed)
        both.cut(())
        self.assertEqual((both.model.left, meant(both.disk)), ((), (0,)))

    def test_room_for_all_of_them(self):
        """Twelve times a long file is removed so; there is always room for the next one."""
        both = pair(self)
        for _ in range(12):
            for deed in file_of(("a",), 336) + [("open", ("a",)), ("remove", ("a",))]:
                self.assertEqual(both.do(deed)[0][0], "done")
            self.assertEqual(both.do(("write", ("a",), 0, ()))[0], ("refused", "no path"))
            both.do(("force",))
            both.cut(())
            self.assertEqual((both.system.needs(), len(both.model.left)), (1, 13))
            both.do(("make", ("b",)))
            both.do(("remove", ("b",)))

    def test_while_all_keys_are_in_use(self):
        both = pair(self)
        for deed in file_of(("a",), 336) + file_of(("b",), 168) + [("open", ("a",)), ("remove", ("a",))]:
            both.do(deed)
        self.assertEqual(both.system.needs(), 22)
        self.assertEqual(both.do(("make", ("c",)))[0], ("refused", "room"))
        both.do(("force",))
        both.cut(())
        self.assertEqual(both.system.needs(), 9)
        for deed in file_of(("c",), 336):
            self.assertEqual(both.do(deed)[0][0], "done")
        self.assertEqual(both.system.needs(), 22)

    def test_whatever_is_beside_the_tree(self):
        both = Pair(self, disk_bearing(changed(RIGHT, k6=content(5), k10=leading_to(("a", 3)), k21=inode(2, 0, 1, ()))))
        self.assertEqual(both.model.left, (6, 10, 21))
        both.do(("make", ("q",)))
        self.assertIn(6, both.system.living())
        both.do(("clean", tuple(range(6))))
        both.do(("root",))
        self.assertEqual(rooted(both.disk), both.system.living())
        both.cut(())
        self.assertEqual(both.model.left, ())


if __name__ == "__main__":
    unittest.main()
