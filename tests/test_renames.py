"""Renames [1.3]."""

import unittest

from support import file_of, folder_of, state_of, tree_after
from trailkeep.plain import from_picture

A_LOT = 10 ** 9


class TestRenames(unittest.TestCase):
    def done(self, tree, path, new):
        self.assertEqual(tree.do(("rename", path, new)), ("done", None))

    def test_to_a_free_name(self):
        tree = tree_after(*file_of(("a",), 2), ("folder", ("d",)))
        self.done(tree, ("a",), ("b",))
        self.assertEqual(tree.do(("list", ())), ("done", ("b", "d")))
        self.done(tree, ("b",), ("d", "c"))
        self.assertEqual(tree.do(("read", ("d", "c"), 0, 9)), ("done", (0, 1)))
        self.assertEqual(tree.do(("stat", ("d", "c"))), ("done", ("file", 2, 1)))
        self.assertEqual(tree.do(("list", ())), ("done", ("d",)))

    def test_a_folder_with_all_below_it(self):
        tree = tree_after(("folder", ("d",)), ("folder", ("d", "e")), *file_of(("d", "e", "f"), 1), ("folder", ("k",)))
        self.done(tree, ("d", "e"), ("k", "e"))
        self.done(tree, ("k",), ("d", "k"))
        self.assertEqual(tree.do(("read", ("d", "k", "e", "f"), 0, 9)), ("done", (0,)))
        self.assertEqual(tree.do(("list", ())), ("done", ("d",)))
        # A path that begins with the same letters is not the same path.
        self.done(tree, ("d", "k"), ("dk",))
        self.done(tree, ("d",), ("dk", "d"))
        self.assertEqual(tree.do(("list", ("dk",))), ("done", ("d", "e")))

    def test_to_the_same_node(self):
        tree = tree_after(*file_of(("a",), 2), ("link", ("a",), ("b",)), ("folder", ("d",)),
                          ("link", ("a",), ("d", "x")), ("make", ("d", "y")))
        before = state_of(tree)
        for path, new in ((("a",), ("a",)), (("a",), ("b",)), (("b",), ("d", "x")), (("d", "x"), ("a",)),
                          (("d",), ("d",)), (("d", "y"), ("d", "y"))):
            self.done(tree, path, new)
            self.assertEqual(state_of(tree), before)
        self.assertEqual(tree.do(("stat", ("a",))), ("done", ("file", 2, 3)))

    def test_to_the_same_node_in_a_full_folder_without_room(self):
        tree = tree_after(*folder_of(("d",), 11), ("link", ("d", "a"), ("d", "z")))
        tree = from_picture(tree.needs(), tree.picture())
        before = state_of(tree)
        self.done(tree, ("d", "a"), ("d", "z"))
        self.done(tree, ("d", "b"), ("d", "b"))
        self.assertEqual(state_of(tree), before)

    def test_over_a_file(self):
        tree = tree_after(*file_of(("a",), 2), *file_of(("b",), 30))
        self.done(tree, ("a",), ("b",))
        self.assertEqual(tree.picture(), (("folder", (("b", 1),)), ("file", (0, 1))))
        self.assertEqual(tree.needs(), 4)

    def test_over_a_file_with_other_links(self):
        tree = tree_after(*file_of(("a",), 2), *file_of(("b",), 30), ("link", ("b",), ("c",)), ("link", ("b",), ("e",)))
        self.done(tree, ("a",), ("b",))
        self.assertEqual(tree.do(("stat", ("c",))), ("done", ("file", 30, 2)))
        self.assertEqual(tree.do(("stat", ("b",))), ("done", ("file", 2, 1)))
        # The moved file has several entries, and one of them goes.
        self.done(tree, ("c",), ("b",))
        self.assertEqual(tree.do(("stat", ("b",))), ("done", ("file", 30, 2)))
        self.assertEqual(tree.do(("list", ())), ("done", ("b", "e")))
        self.assertEqual(tree.needs(), 1 + 1 + 1 + 2)

    def test_over_an_empty_folder(self):
        tree = tree_after(*folder_of(("a",), 2), ("folder", ("b",)), ("folder", ("b", "c")))
        self.done(tree, ("a",), ("b", "c"))
        self.assertEqual(tree.do(("list", ("b", "c"))), ("done", ("a", "b")))
        self.assertEqual(tree.do(("list", ())), ("done", ("b",)))
        self.done(tree, ("b", "c"), ("b", "x"))
        self.assertEqual(tree.needs(), 2 + 2 + 2 + 1 + 1)

    def test_refused_over_others(self):
        tree = tree_after(*folder_of(("a",), 1), *folder_of(("b",), 1), ("make", ("c",)), ("folder", ("e",)))
        before = state_of(tree)
        for path, new, word in ((("a",), ("b",), "not empty"), (("e",), ("b",), "not empty"), (("c",), ("b",), "there"),
                                (("c",), ("e",), "there"), (("a",), ("c",), "there"), (("e",), ("c",), "there"),
                                (("a", "a"), ("a",), "there")):
            self.assertEqual(tree.do(("rename", path, new)), ("refused", word))
        self.assertEqual(state_of(tree), before)

    def test_within_a_full_folder(self):
        tree = tree_after(*folder_of(("d",), 12), ("make", ("x",)))
        needs = tree.needs()
        self.done(tree, ("d", "a"), ("d", "new"))
        self.assertEqual(tree.do(("stat", ("d",))), ("done", ("folder", 12, 1)))
        self.assertEqual(tree.needs(), needs)
        self.assertEqual(tree.do(("rename", ("x",), ("d", "zz"))), ("refused", "crowded"))
        self.done(tree, ("x",), ("d", "b"))
        self.assertEqual(tree.do(("stat", ("d",))), ("done", ("folder", 12, 1)))
        self.done(tree, ("d", "b"), ("d", "c"))
        self.assertEqual(tree.do(("stat", ("d",))), ("done", ("folder", 11, 1)))

    def test_within_the_full_root(self):
        tree = tree_after(*[("make", (chr(ord("a") + at),)) for at in range(12)])
        self.done(tree, ("a",), ("zz",))
        self.assertEqual(tree.do(("list", ()))[1][-1], "zz")

    def test_of_or_to_the_root(self):
        tree = tree_after(("folder", ("a",)))
        for path, new in (((), ()), ((), ("b",)), (("a",), ()), ((), ("a", "b")), (("gone",), ())):
            self.assertEqual(tree.do(("rename", path, new)), ("refused", "root"))

    def test_with_room_only_for_what_stays(self):
        # The entry leaves a folder with 4 entries, which gives the block that it needs in the other one.
        tree = tree_after(*folder_of(("a",), 4), ("folder", ("b",)))
        tree = from_picture(tree.needs(), tree.picture())
        self.done(tree, ("a", "a"), ("b", "x"))
        self.assertEqual(tree.do(("rename", ("a", "b"), ("gone",))), ("done", None))
        self.assertEqual(tree.do(("folder", ("c",))), ("refused", "room"))

    def test_room_exactly(self):
        tree = tree_after(*folder_of(("a",), 3), ("folder", ("b",)))
        for spare, answer in ((0, ("refused", "room")), (1, ("done", None))):
            tight = from_picture(tree.needs() + spare, tree.picture())
            self.assertEqual(tight.do(("rename", ("a", "a"), ("b", "a"))), answer)
            self.assertEqual(tight.needs(), tree.needs() + spare)

    def test_deeper_than_eight(self):
        tree = tree_after(*[("folder", ("a",) * many) for many in range(1, 9)], *[("folder", ("b",) * many)
                          for many in range(1, 9)], ("rename", ("b",), ("a",) * 7 + ("b",)))
        self.assertEqual(len(tree.picture()), 17)
        self.assertEqual(tree.do(("list", ("a",) * 7)), ("done", ("a", "b")))
        self.assertEqual(tree.do(("list", ("a",) * 7 + ("b",))), ("done", ("b",)))
        # What lies deeper comes back into reach by another rename.
        self.done(tree, ("a",) * 7 + ("b",), ("c",))
        self.assertEqual(tree.do(("list", ("c",) + ("b",) * 7)), ("done", ()))


if __name__ == "__main__":
    unittest.main()
