"""The examples of the document, as they stand there."""

import unittest

from examples import differences

PLAIN = """
>>> from trailkeep.plain import Plain, from_picture, is_picture
>>> tree = Plain(5)
>>> [tree.do(("folder", ("a",))), tree.do(("make", ("a", "b"))), tree.needs(), tree.do(("write", ("a", "b"), 0, (7, 8))), tree.needs()]
[('done', None), ('done', None), 5, ('refused', 'room'), 5]
>>> [tree.do(("rename", ("a", "b"), ("b",))), tree.picture(), tree.needs(), tree.do(("write", ("b",), 0, (7, 8))), tree.do(("read", ("b",), 1, 9)), tree.do(("list", ()))]
[('done', None), (('folder', (('a', 1), ('b', 2))), ('folder', ()), ('file', ())), 4, ('done', 2), ('done', (8,)), ('done', ('a', 'b'))]
"""

DISK = """
>>> from trailkeep.disk import Disk, place_at
>>> disk = Disk(6, 4)
>>> ONES = (1,) * 32
>>> [disk.sizes(), disk.many(), place_at(disk, 2, 3), disk.write(5, ONES), disk.read(5) == ONES, disk.standing()[5][0], len(disk.waiting())]
[(6, 4, 6, 1), 26, 13, None, True, 0, 1]
>>> [disk.cut((3,)), disk.read(5)[:5], disk.waiting(), disk.write(5, ONES), disk.force(), disk.standing()[5] == ONES, disk.fuse(0)]
[None, (1, 1, 1, 0, 0), (), None, None, True, None]
>>> disk.force()
raises PowerCut()
"""

GROUPS = """
>>> from trailkeep.disk import Disk, place_at
>>> from trailkeep.groups import data_block, judge_group
>>> disk = Disk(6, 4)
>>> [disk.write(place_at(disk, 0, 0), (7, 1, 5, 1, 1, 1, 3, 4) + (0,) * 23 + (7,)), judge_group(disk, 0, 0), disk.write(place_at(disk, 0, 1), data_block(7, 3, (9,) * 28)), judge_group(disk, 0, 0), judge_group(disk, 0, 1), judge_group(disk, 0, 2)]
[None, ('block', 0), None, ('group', 7, 5, 1, (3,), (4,)), ('kind',), ('torn',)]
"""

ROOTS = """
>>> from trailkeep.disk import Disk
>>> from trailkeep.roots import judge_root, made, newer_root
>>> disk = made(6, 4)
>>> [judge_root(disk, 0), judge_root(disk, 1), newer_root(disk), disk.read(0)[:8], newer_root(Disk(6, 4))]
[('root', 1, 0, 0, 1, 0, (None, None, None, None, None, None)), ('broken', 0), 0, (1, 3, 0, 0, 0, 1, 0, 0), None]
"""

MEANING = """
>>> from trailkeep.disk import place_at
>>> from trailkeep.groups import data_block
>>> from trailkeep.meaning import map_of, meaning, road, top_number
>>> from trailkeep.roots import made
>>> disk = made(6, 4)
>>> [disk.write(place_at(disk, 0, 0), (2, 1, 0, 1, 1, 0, 3) + (0,) * 24 + (2,)), disk.write(place_at(disk, 0, 1), data_block(2, 3, (9,) * 28)), road(disk), map_of(disk), meaning(disk) == ((3, (9,) * 28),), top_number(disk)]
[None, None, ((0, 0, 2),), ((3, 3),), True, 2]
>>> [disk.cut((32, 31)), road(disk), map_of(disk), meaning(disk), top_number(disk)]
[None, (), (), (), 2]
"""

TRAIL = """
>>> from trailkeep.roots import made
>>> from trailkeep.trail import Trail
>>> trail = Trail(made(6, 4))
>>> CONTENT = (5,) * 28
>>> [trail.put(((0, CONTENT), (2, CONTENT)), ()), trail.put(((1, CONTENT),), (2,)), trail.living(), trail.head(), trail.beyond(), trail.last(), trail.next_number(), trail.uses(), trail.states()]
[None, None, (0, 1), (1, 2), 2, 3, 4, (1, 1, 0, 0, 0, 0), ('closed', 'current', 'beyond', 'free', 'free', 'free')]
>>> [trail.place_of(1), trail.read(1) == CONTENT, trail.free_keys(2), trail.root(), trail.next_number(), Trail(trail.disk()).head()]
[7, True, (2, 3), None, 5, (1, 2)]
"""

CLEANER = """
>>> from trailkeep.roots import made
>>> from trailkeep.trail import Trail
>>> trail = Trail(made(6, 4))
>>> CONTENT = (5,) * 28
>>> [trail.put(((0, CONTENT), (2, CONTENT)), ()), trail.put(((1, CONTENT),), (2,)), trail.chosen('emptiest', 2), trail.clean((0,)), trail.uses(), trail.states(), trail.living()]
[None, None, (0,), True, (0, 2, 0, 0, 0, 0), ('closed', 'current', 'beyond', 'free', 'free', 'free'), (0, 1)]
>>> [trail.root(), trail.states(), trail.head()]
[None, ('free', 'current', 'beyond', 'free', 'free', 'free'), (1, 4)]
"""

INODES = """
>>> from trailkeep.inodes import file_blocks, file_words, inode_content, inode_told, is_inode
>>> NOUGHT = (0,) * 28
>>> [inode_content(1, 30, 2, (7, 4))[:6], inode_told((2, 1, 1, 9) + (0,) * 24), is_inode(NOUGHT), is_inode((1, 1, 1, 5, 6) + (0,) * 23)]
[(1, 30, 2, 7, 4, 0), (2, 1, 1, (9,)), False, False]
>>> [len(file_blocks((5,) * 30)), file_blocks((5,) * 30)[1][:3], file_words(30, file_blocks((5,) * 30)) == (5,) * 30, file_blocks(())]
[2, (5, 5, 0), True, ()]
"""

FOLDERS = """
>>> from trailkeep.folders import folder_blocks, folder_entries, is_path
>>> [folder_blocks((("ab", 3), ("c", 1)))[0][:20], folder_entries(2, folder_blocks((("ab", 3), ("c", 1)))), is_path(("a", "bc")), is_path(("", "a"))]
[(1, 2, 0, 0, 0, 0, 0, 0, 3, 3, 0, 0, 0, 0, 0, 0, 0, 1, 0, 0), (('ab', 3), ('c', 1)), True, False]
"""

SYSTEM = """
>>> from trailkeep.system import System, formatted
>>> disk = formatted(6, 12)
>>> keep = System(disk)
>>> [keep.room(), keep.do(("make", ("a",))), keep.do(("force",)), keep.do(("write", ("a",), 0, (1, 2, 3))), keep.standing(), keep.done(), keep.needs(), keep.living()]
[22, ('done', None), ('done', None), ('done', 3), 2, 3, 4, (0, 1, 2, 3)]
>>> [disk.cut(()), System(disk).picture()]
[None, (('folder', (('a', 1),)), ('file', ()))]
"""

EXAMINER = """
>>> from trailkeep.examiner import blocks_of, examine, tree_of
>>> TREE = (('folder', (('a', 1),)), ('file', (7,)))
>>> [examine(blocks_of(TREE)), tree_of(blocks_of(TREE)) == TREE, examine(()), examine(blocks_of(TREE)[:3])]
[('tree', ((0, ('root',)), (1, ('entry', 0, 'a')), (2, ('block', 0, 0)), (3, ('block', 1, 0))), ()), True, ('wrong', 'inode', 0), ('wrong', 'lacking', 3)]
"""

WRITERS = """
>>> from trailkeep.plain import Plain
>>> from trailkeep.system import System, formatted
>>> from trailkeep.writers import woven
>>> SCRIPTS = ((("make", ("a",)), ("open", ("a",)), ("hwrite", 0, 0, (5,))), (("open", ("a",)), ("remove", ("a",)), ("hread", 0, 0, 9)))
>>> woven(Plain(22), SCRIPTS, (0, 1, -1, 1, 0, 1, 0, 1))
((('done', None), ('refused', 'no path'), ('refused', 'no handle')), (('done', 0), ('done', None), ('done', ())))
>>> woven(Plain(22), SCRIPTS, (0, 1, 1)) == woven(System(formatted(6, 12)), SCRIPTS, (0, -3, 1, -1, 1))
True
"""

IMAGES = r"""
>>> from trailkeep.disk import Disk
>>> from trailkeep.images import disk_text, read_disk
>>> disk = Disk(6, 4)
>>> [disk.write(7, (5,) + (0,) * 31), disk_text(disk), disk.force(), disk_text(disk)]
[None, 'disk 6 4', None, 'disk 6 4\n7 5 0 0 0 0 0 0 0 0 0 0 0 0 0 0 0 0 0 0 0 0 0 0 0 0 0 0 0 0 0 0 0']
>>> [read_disk(disk_text(disk)).read(7)[0], read_disk('disk 6 4').sizes()]
[5, (6, 4, 6, 1)]
>>> read_disk('disk 6 4\n3 1')
raises BadText(at=2)
"""


class TestExamples(unittest.TestCase):
    def test_plain(self):
        self.assertEqual(differences(PLAIN), [])

    def test_disk(self):
        self.assertEqual(differences(DISK), [])

    def test_groups(self):
        self.assertEqual(differences(GROUPS), [])

    def test_roots(self):
        self.assertEqual(differences(ROOTS), [])

    def test_meaning(self):
        self.assertEqual(differences(MEANING), [])

    def test_trail(self):
        self.assertEqual(differences(TRAIL), [])

    def test_cleaner(self):
        self.assertEqual(differences(CLEANER), [])

    def test_inodes(self):
        self.assertEqual(differences(INODES), [])

    def test_folders(self):
        self.assertEqual(differences(FOLDERS), [])

    def test_system(self):
        self.assertEqual(differences(SYSTEM), [])

    def test_examiner(self):
        self.assertEqual(differences(EXAMINER), [])

    def test_writers(self):
        self.assertEqual(differences(WRITERS), [])

    def test_images(self):
        self.assertEqual(differences(IMAGES), [])

    def test_a_wrong_example_is_found(self):
        self.assertEqual(differences(">>> k = 1\n>>> k\n2"), [(">>> k", "2", "1")])
        self.assertEqual(len(differences(PLAIN.replace("room", "rooms"))), 1)
        self.assertEqual(len(differences(DISK.replace("PowerCut()", "BadCut(thing=0)"))), 1)


if __name__ == "__main__":
    unittest.main()
