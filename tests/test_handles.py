"""Handles [1.2], and what they keep."""

import unittest

from support import file_of, state_of, tree_after
from trailkeep.plain import from_picture

NO_FILES = (("folder", ()),)


class TestHandles(unittest.TestCase):
    def test_the_least_free_handle(self):
        tree = tree_after(("make", ("a",)))
        self.assertEqual(tree.handles(), ())
        for handle in range(8):
            self.assertEqual(tree.do(("open", ("a",))), ("done", handle))
            self.assertEqual(tree.handles(), tuple(range(handle + 1)))
        self.assertEqual(tree.do(("open", ("a",))), ("refused", "handles"))
        for handle in (5, 2, 7):
            self.assertEqual(tree.do(("close", handle)), ("done", None))
            self.assertEqual(tree.do(("close", handle)), ("refused", "no handle"))
        self.assertEqual(tree.handles(), (0, 1, 3, 4, 6))
        for handle in (2, 5, 7):
            self.assertEqual(tree.do(("open", ("a",))), ("done", handle))
        self.assertEqual(tree.handles(), tuple(range(8)))

    def test_reading_and_writing(self):
        tree = tree_after(*file_of(("a",), 3), ("open", ("a",)), ("open", ("a",)))
        self.assertEqual(tree.do(("hread", 0, 1, 5)), ("done", (1, 2)))
        self.assertEqual(tree.do(("hread", 0, 3, 5)), ("done", ()))
        self.assertEqual(tree.do(("hread", 0, 10 ** 9, 10 ** 9)), ("done", ()))
        self.assertEqual(tree.do(("hwrite", 1, 3, (7, 8))), ("done", 5))
        self.assertEqual(tree.do(("hwrite", 1, 6, (7, 8))), ("refused", "gap"))
        self.assertEqual(tree.do(("hcut", 0, 6)), ("refused", "long"))
        self.assertEqual(tree.do(("hcut", 0, 4)), ("done", None))
        self.assertEqual(tree.do(("read", ("a",), 0, 99)), ("done", (0, 1, 2, 7)))
        self.assertEqual(tree.do(("hstat", 1)), ("done", ("file", 4, 1)))

    def test_336_words(self):
        tree = tree_after(*file_of(("a",), 335), ("open", ("a",)))
        self.assertEqual(tree.do(("hwrite", 0, 335, (1, 2))), ("refused", "long"))
        self.assertEqual(tree.do(("hwrite", 0, 335, (1,))), ("done", 336))
        self.assertEqual(tree.do(("hwrite", 0, 336, (1,))), ("refused", "long"))
        self.assertEqual(tree.do(("hwrite", 0, 336, ())), ("done", 336))

    def test_a_handle_follows_its_file(self):
        tree = tree_after(*file_of(("a",), 2), ("open", ("a",)), ("rename", ("a",), ("b",)), ("make", ("a",)),
                          ("link", ("b",), ("c",)))
        self.assertEqual(tree.do(("hstat", 0)), ("done", ("file", 2, 2)))
        self.assertEqual(tree.do(("hwrite", 0, 0, (5,))), ("done", 2))
        self.assertEqual(tree.do(("read", ("c",), 0, 1)), ("done", (5,)))
        self.assertEqual(tree.do(("read", ("a",), 0, 1)), ("done", ()))

    def test_a_removed_file_is_kept_until_the_last_handle_is_closed(self):
        tree = tree_after(*file_of(("a",), 29), ("open", ("a",)), ("open", ("a",)))
        self.assertEqual(tree.needs(), 5)
        self.assertEqual(tree.do(("remove", ("a",))), ("done", None))
        self.assertEqual(state_of(tree), (NO_FILES, 1 + 3, (0, 1)))
        self.assertEqual(tree.do(("hstat", 1)), ("done", ("file", 29, 0)))
        self.assertEqual(tree.do(("hwrite", 1, 29, (5,) * 28)), ("done", 57))
        self.assertEqual(tree.needs(), 1 + 4)
        self.assertEqual(tree.do(("hread", 0, 56, 9)), ("done", (5,)))
        self.assertEqual(tree.do(("close", 0)), ("done", None))
        self.assertEqual(tree.needs(), 1 + 4)
        self.assertEqual(tree.do(("hcut", 1, 0)), ("done", None))
        self.assertEqual(tree.needs(), 1 + 1)
        self.assertEqual(tree.do(("close", 1)), ("done", None))
        self.assertEqual(state_of(tree), (NO_FILES, 1, ()))

    def test_a_replaced_file_is_kept(self):
        tree = tree_after(*file_of(("a",), 1), *file_of(("b",), 2), ("open", ("b",)), ("rename", ("a",), ("b",)))
        self.assertEqual(tree.do(("hread", 0, 0, 9)), ("done", (0, 1)))
        self.assertEqual(tree.do(("hstat", 0)), ("done", ("file", 2, 0)))
        self.assertEqual(tree.do(("read", ("b",), 0, 9)), ("done", (0,)))
        self.assertEqual(tree.picture(), (("folder", (("b", 1),)), ("file", (0,))))
        self.assertEqual(tree.needs(), 2 + 2 + 2)
        self.assertEqual(tree.do(("open", ("b",))), ("done", 1))
        self.assertEqual(tree.do(("close", 0)), ("done", None))
        self.assertEqual(tree.needs(), 2 + 2)
        self.assertEqual(tree.do(("hread", 1, 0, 9)), ("done", (0,)))

    def test_closing_does_not_remove_a_file_with_entries(self):
        tree = tree_after(*file_of(("a",), 2), ("open", ("a",)), ("close", 0))
        self.assertEqual(tree.do(("read", ("a",), 0, 9)), ("done", (0, 1)))
        self.assertEqual(tree.needs(), 4)

    def test_held_files_take_room(self):
        tree = tree_after(*file_of(("a",), 28), ("open", ("a",)), ("remove", ("a",)), room=4)
        self.assertEqual(tree.do(("hwrite", 0, 28, (1,))), ("done", 29))
        self.assertEqual(tree.do(("hwrite", 0, 29, (1,) * 28)), ("refused", "room"))
        self.assertEqual(tree.do(("make", ("b",))), ("refused", "room"))
        self.assertEqual(tree.do(("close", 0)), ("done", None))
        self.assertEqual(tree.do(("make", ("b",))), ("done", None))

    def test_fallen_trees_have_no_handles(self):
        tree = tree_after(*file_of(("a",), 2), *file_of(("b",), 57), ("open", ("b",)), ("open", ("a",)),
                          ("remove", ("b",)))
        before = state_of(tree)
        fallen = tree.fallen()
        self.assertEqual(state_of(fallen), (tree.picture(), 4, ()))
        self.assertEqual(fallen.do(("hread", 0, 0, 9)), ("refused", "no handle"))
        self.assertEqual(fallen.do(("open", ("a",))), ("done", 0))
        self.assertEqual(fallen.do(("hwrite", 0, 0, (9,))), ("done", 2))
        # The two trees go their own ways.
        self.assertEqual(state_of(tree), before)
        self.assertEqual(tree.do(("read", ("a",), 0, 9)), ("done", (0, 1)))
        self.assertEqual(tree.do(("folder", ("new",))), ("done", None))
        self.assertEqual(fallen.do(("list", ())), ("done", ("a",)))

    def test_a_fallen_tree_has_the_same_room(self):
        tree = tree_after(*file_of(("a",), 1), ("open", ("a",)), ("remove", ("a",)), room=4)
        fallen = tree.fallen()
        self.assertEqual(fallen.do(("make", ("b",))), ("done", None))
        self.assertEqual(fallen.do(("write", ("b",), 0, (1,) * 28)), ("done", 28))
        self.assertEqual(fallen.do(("write", ("b",), 28, (1,))), ("refused", "room"))
        self.assertEqual(tree.do(("make", ("b",))), ("refused", "room"))

    def test_handles_on_a_tree_from_a_picture(self):
        tree = from_picture(9, (("folder", (("a", 1), ("b", 1))), ("file", (4, 5))))
        self.assertEqual(tree.do(("open", ("b",))), ("done", 0))
        self.assertEqual(tree.do(("hstat", 0)), ("done", ("file", 2, 2)))
        self.assertEqual(tree.do(("remove", ("a",))), ("done", None))
        self.assertEqual(tree.do(("remove", ("b",))), ("done", None))
        self.assertEqual(tree.do(("hread", 0, 0, 9)), ("done", (4, 5)))


if __name__ == "__main__":
    unittest.main()
