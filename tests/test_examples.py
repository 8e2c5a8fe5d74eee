"""The examples of the document, as they stand there."""

import unittest

from examples import differences

PLAIN = """
>>> from trailkeep.plain import Plain, from_picture, is_picture
>>> tree = Plain(5)
>>> [tree.do(("folder", ("a",))), tree.do(("make", ("a", "b"))), tree.needs(), tree.do(("write", ("a", "b"), 0, (7, 8))), tree.needs()]
[('done', None), ('done', None), 5, ('refused', 'room'), 5]
>>> [tree.do(("rename", ("a", "b"), ("b",))), tree.picture(), tree.needs(), tree.do(("write", ("b",), 0, (7, 8))), tree.do(("read", ("b",), 1, 9)), tree.do(("list", ()))]
[('done', None), (('folder', (('a', 1), ('b', 2))), ('folder', ()), ('file', ())), 4, ('done', 2), ('done', (8,)), ('done', ('a', 'b'))]
"""

DISK = """
>>> from trailkeep.disk import Disk, place_at
>>> disk = Disk(6, 4)
>>> ONES = (1,) * 32
>>> [disk.sizes(), disk.many(), place_at(disk, 2, 3), disk.write(5, ONES), disk.read(5) == ONES, disk.standing()[5][0], len(disk.waiting())]
[(6, 4, 6, 1), 26, 13, None, True, 0, 1]
>>> [disk.cut((3,)), disk.read(5)[:5], disk.waiting(), disk.write(5, ONES), disk.force(), disk.standing()[5] == ONES, disk.fuse(0)]
[None, (1, 1, 1, 0, 0), (), None, None, True, None]
>>> disk.force()
raises PowerCut()
"""


class TestExamples(unittest.TestCase):
    def test_plain(self):
        self.assertEqual(differences(PLAIN), [])

    def test_disk(self):
        self.assertEqual(differences(DISK), [])

    def test_a_wrong_example_is_found(self):
        self.assertEqual(differences(">>> k = 1\n>>> k\n2"), [(">>> k", "2", "1")])
        self.assertEqual(len(differences(PLAIN.replace("room", "rooms"))), 1)
        self.assertEqual(len(differences(DISK.replace("PowerCut()", "BadCut(thing=0)"))), 1)


if __name__ == "__main__":
    unittest.main()
