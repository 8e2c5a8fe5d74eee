"""What deeds do when they are done [1.1, 1.3]; renames and handles have tests of their own."""

import unittest

from support import file_of, folder_of, names, state_of, tree_after
from trailkeep.plain import Plain

A_LOT = 10 ** 9


def words_of(tree, path):
    return tree.do(("read", path, 0, A_LOT))[1]


class TestNewNodes(unittest.TestCase):
    def test_folders_and_files(self):
        tree = Plain(100)
        self.assertEqual(tree.do(("folder", ("b",))), ("done", None))
        self.assertEqual(tree.do(("make", ("b", "zzzzzzzz"))), ("done", None))
        self.assertEqual(tree.do(("make", ("a",))), ("done", None))
        self.assertEqual(tree.do(("list", ())), ("done", ("a", "b")))
        self.assertEqual(tree.do(("list", ("b",))), ("done", ("zzzzzzzz",)))
        self.assertEqual(tree.do(("stat", ())), ("done", ("folder", 2, 1)))
        self.assertEqual(tree.do(("stat", ("b",))), ("done", ("folder", 1, 1)))
        self.assertEqual(tree.do(("stat", ("b", "zzzzzzzz"))), ("done", ("file", 0, 1)))
        self.assertEqual(words_of(tree, ("a",)), ())

    def test_twelve_entries(self):
        tree = tree_after(*folder_of(("f",), 12))
        self.assertEqual(tree.do(("list", ("f",))), ("done", tuple(names(12))))
        self.assertEqual(tree.do(("stat", ("f",))), ("done", ("folder", 12, 1)))
        self.assertEqual(tree.do(("make", ("f", "m"))), ("refused", "crowded"))
        self.assertEqual(tree.do(("remove", ("f", "c"))), ("done", None))
        self.assertEqual(tree.do(("folder", ("f", "m"))), ("done", None))

    def test_names_are_listed_ascending(self):
        tree = tree_after(("make", ("b",)), ("make", ("ab",)), ("make", ("aa",)), ("make", ("a",)), ("make", ("abc",)))
        self.assertEqual(tree.do(("list", ())), ("done", ("a", "aa", "ab", "abc", "b")))

    def test_eight_names_deep(self):
        tree = tree_after(*[("folder", ("a",) * many) for many in range(1, 8)])
        self.assertEqual(tree.do(("make", ("a",) * 8)), ("done", None))
        self.assertEqual(tree.do(("stat", ("a",) * 8)), ("done", ("file", 0, 1)))
        self.assertEqual(tree.do(("stat", ("a",) * 7)), ("done", ("folder", 1, 1)))


class TestWords(unittest.TestCase):
    def test_write_in_the_middle_and_beyond_the_end(self):
        tree = tree_after(("make", ("a",)))
        self.assertEqual(tree.do(("write", ("a",), 0, (1, 2, 3))), ("done", 3))
        self.assertEqual(tree.do(("write", ("a",), 1, (9,))), ("done", 3))
        self.assertEqual(words_of(tree, ("a",)), (1, 9, 3))
        self.assertEqual(tree.do(("write", ("a",), 2, (7, 8, A_LOT))), ("done", 5))
        self.assertEqual(words_of(tree, ("a",)), (1, 9, 7, 8, A_LOT))
        self.assertEqual(tree.do(("write", ("a",), 5, (0,))), ("done", 6))
        self.assertEqual(tree.do(("write", ("a",), 6, ())), ("done", 6))
        self.assertEqual(tree.do(("write", ("a",), 2, ())), ("done", 6))
        self.assertEqual(words_of(tree, ("a",)), (1, 9, 7, 8, A_LOT, 0))
        self.assertEqual(tree.do(("write", ("a",), 7, ())), ("refused", "gap"))
        self.assertEqual(tree.do(("write", ("a",), 7, (1,))), ("refused", "gap"))

    def test_at_most_336_words(self):
        tree = tree_after(*file_of(("a",), 335))
        self.assertEqual(tree.do(("write", ("a",), 335, (5, 6))), ("refused", "long"))
        self.assertEqual(tree.do(("write", ("a",), 335, (5,))), ("done", 336))
        self.assertEqual(tree.do(("write", ("a",), 336, ())), ("done", 336))
        self.assertEqual(tree.do(("write", ("a",), 336, (1,))), ("refused", "long"))
        self.assertEqual(tree.do(("write", ("a",), 281, (1,) * 56)), ("refused", "long"))
        self.assertEqual(tree.do(("write", ("a",), 280, (1,) * 56)), ("done", 336))
        self.assertEqual(words_of(tree, ("a",)), tuple(range(280)) + (1,) * 56)
        self.assertEqual(tree.do(("write", ("a",), 337, ())), ("refused", "gap"))

    def test_cut(self):
        tree = tree_after(*file_of(("a",), 30))
        self.assertEqual(tree.do(("cut", ("a",), 31)), ("refused", "long"))
        self.assertEqual(tree.do(("cut", ("a",), 30)), ("done", None))
        self.assertEqual(words_of(tree, ("a",)), tuple(range(30)))
        self.assertEqual(tree.do(("cut", ("a",), 2)), ("done", None))
        self.assertEqual(words_of(tree, ("a",)), (0, 1))
        self.assertEqual(tree.do(("write", ("a",), 3, (5,))), ("refused", "gap"))
        self.assertEqual(tree.do(("cut", ("a",), 0)), ("done", None))
        self.assertEqual(tree.do(("cut", ("a",), 0)), ("done", None))
        self.assertEqual(tree.do(("stat", ("a",))), ("done", ("file", 0, 1)))

    def test_read(self):
        tree = tree_after(*file_of(("a",), 5))
        for at, many, words in ((0, 0, ()), (0, 5, (0, 1, 2, 3, 4)), (0, 9, (0, 1, 2, 3, 4)), (1, 2, (1, 2)),
                                (4, 1, (4,)), (4, A_LOT, (4,)), (5, 1, ()), (6, 1, ()), (A_LOT, A_LOT, ()), (2, 0, ())):
            self.assertEqual(tree.do(("read", ("a",), at, many)), ("done", words))

    def test_reading_changes_nothing(self):
        tree = tree_after(*file_of(("a",), 5), ("folder", ("b",)), ("open", ("a",)))
        before = state_of(tree)
        for deed in (("read", ("a",), 1, 2), ("list", ()), ("stat", ("b",)), ("hread", 0, 1, 2), ("hstat", 0)):
            self.assertEqual(tree.do(deed)[0], "done")
        self.assertEqual(state_of(tree), before)


class TestLinks(unittest.TestCase):
    def test_one_file_in_several_entries(self):
        tree = tree_after(*file_of(("a",), 2), ("folder", ("d",)))
        self.assertEqual(tree.do(("link", ("a",), ("d", "x"))), ("done", None))
        self.assertEqual(tree.do(("link", ("d", "x"), ("b",))), ("done", None))
        for path in (("a",), ("b",), ("d", "x")):
            self.assertEqual(tree.do(("stat", path)), ("done", ("file", 2, 3)))
        self.assertEqual(tree.do(("write", ("b",), 1, (8, 9))), ("done", 3))
        self.assertEqual(words_of(tree, ("d", "x")), (0, 8, 9))
        self.assertEqual(tree.do(("remove", ("a",))), ("done", None))
        self.assertEqual(tree.do(("stat", ("a",))), ("refused", "no path"))
        self.assertEqual(tree.do(("stat", ("b",))), ("done", ("file", 3, 2)))
        self.assertEqual(tree.do(("remove", ("b",))), ("done", None))
        self.assertEqual(tree.do(("stat", ("d", "x"))), ("done", ("file", 3, 1)))
        self.assertEqual(tree.do(("remove", ("d", "x"))), ("done", None))
        self.assertEqual(tree.picture(), (("folder", (("d", 1),)), ("folder", ())))


class TestRemove(unittest.TestCase):
    def test_files_and_empty_folders(self):
        tree = tree_after(*folder_of(("f",), 2))
        self.assertEqual(tree.do(("remove", ("f",))), ("refused", "not empty"))
        self.assertEqual(tree.do(("remove", ("f", "a"))), ("done", None))
        self.assertEqual(tree.do(("remove", ("f", "b"))), ("done", None))
        self.assertEqual(tree.do(("remove", ("f",))), ("done", None))
        self.assertEqual(tree.do(("remove", ("f",))), ("refused", "no path"))
        self.assertEqual(state_of(tree), state_of(Plain(1)))


if __name__ == "__main__":
    unittest.main()
