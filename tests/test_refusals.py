"""Every word of refusal of every deed, the first one where several apply, and that nothing changes [1.3]."""

import unittest

from support import file_of, folder_of, state_of, tree_after
from trailkeep.plain import from_picture

FIVE = (1, 2, 3, 4, 5)
MOST = (9,) * 56
A_LOT = 10 ** 9

# A folder with all kinds of entries, a full folder, one with three entries, an empty one, and files.
DEEDS = (
    folder_of(("full",), 12) + folder_of(("three",), 3) + [("folder", ("empty",)), ("folder", ("dir",))]
    + [("folder", ("dir", "sub"))] + file_of(("dir", "sub", "x"), 1) + file_of(("dir", "small"), 3)
    + file_of(("large",), 334) + file_of(("even",), 28) + [("link", ("even",), ("same",))]
)


def refusals_without_room():
    """Pairs of a deed and the word that refuses it on a tree without any room left."""
    found = []
    for word in ("folder", "make"):
        found.extend([
            ((word, ()), "there"),
            ((word, ("gone", "a")), "no path"),
            ((word, ("even", "a")), "no path"),
            ((word, ("even", "a", "b")), "no path"),
            ((word, ("empty", "a", "b")), "no path"),
            ((word, ("full", "a")), "there"),
            ((word, ("full", "a", "b")), "no path"),
            ((word, ("dir",)), "there"),
            ((word, ("dir", "sub")), "there"),
            ((word, ("even",)), "there"),
            ((word, ("full", "new")), "crowded"),
            ((word, ("empty", "a")), "room"),
            ((word, ("new",)), "room"),
        ])
    found.extend([
        (("write", ("gone",), A_LOT, MOST), "no path"),
        (("write", ("even", "a"), A_LOT, MOST), "no path"),
        (("write", ("gone", "a"), 0, ()), "no path"),
        (("write", (), A_LOT, MOST), "no file"),
        (("write", ("dir", "sub"), 0, ()), "no file"),
        (("write", ("even",), 29, ()), "gap"),
        (("write", ("large",), 335, MOST), "gap"),
        (("write", ("even",), A_LOT, MOST), "gap"),
        (("write", ("large",), 334, (1, 2, 3)), "long"),
        (("write", ("large",), 281, MOST), "long"),
        (("write", ("even",), 28, (1,)), "room"),
        (("write", ("even",), 0, (0,) * 29), "room"),
        (("write", ("dir", "small"), 2, MOST), "room"),
        (("cut", ("gone",), A_LOT), "no path"),
        (("cut", ("even", "a"), 0), "no path"),
        (("cut", (), A_LOT), "no file"),
        (("cut", ("dir", "sub"), 0), "no file"),
        (("cut", ("even",), 29), "long"),
        (("cut", ("large",), A_LOT), "long"),
        (("read", ("gone",), 0, 0), "no path"),
        (("read", ("even", "a"), A_LOT, 0), "no path"),
        (("read", (), 0, 0), "no file"),
        (("read", ("empty",), A_LOT, A_LOT), "no file"),
        (("list", ("gone",)), "no path"),
        (("list", ("even", "a")), "no path"),
        (("list", ("dir", "sub", "x", "y")), "no path"),
        (("list", ("even",)), "no folder"),
        (("list", ("dir", "sub", "x")), "no folder"),
        (("stat", ("gone",)), "no path"),
        (("stat", ("even", "a")), "no path"),
        (("stat", ("dir", "gone", "x")), "no path"),
        (("link", ("gone",), ()), "no path"),
        (("link", ("even", "a"), ("full", "a")), "no path"),
        (("link", ("dir",), ()), "no file"),
        (("link", (), ("gone", "a")), "no file"),
        (("link", ("dir", "sub"), ("full", "new")), "no file"),
        (("link", ("even",), ()), "there"),
        (("link", ("even",), ("gone", "a")), "no path"),
        (("link", ("even",), ("even", "a")), "no path"),
        (("link", ("even",), ("full", "a")), "there"),
        (("link", ("even",), ("even",)), "there"),
        (("link", ("even",), ("same",)), "there"),
        (("link", ("even",), ("dir",)), "there"),
        (("link", ("even",), ("full", "new")), "crowded"),
        (("link", ("even",), ("three", "new")), "room"),
        (("link", ("even",), ("empty", "new")), "room"),
        (("rename", (), ("gone", "a")), "root"),
        (("rename", ("gone", "a"), ()), "root"),
        (("rename", (), ()), "root"),
        (("rename", ("dir", "sub"), ()), "root"),
        (("rename", (), ("dir", "a")), "root"),
        (("rename", ("gone",), ("dir", "a")), "no path"),
        (("rename", ("gone",), ("gone",)), "no path"),
        (("rename", ("gone",), ("gone", "a")), "no path"),
        (("rename", ("even", "a"), ("new",)), "no path"),
        (("rename", ("dir",), ("gone", "a")), "no path"),
        (("rename", ("dir",), ("even", "a")), "no path"),
        (("rename", ("dir",), ("dir", "gone", "a")), "no path"),
        (("rename", ("even",), ("even", "a")), "no path"),
        (("rename", ("dir",), ("dir", "new")), "within"),
        (("rename", ("dir",), ("dir", "small")), "within"),
        (("rename", ("dir",), ("dir", "sub")), "within"),
        (("rename", ("dir",), ("dir", "sub", "new")), "within"),
        (("rename", ("dir",), ("dir", "sub", "x")), "within"),
        (("rename", ("full",), ("full", "new")), "within"),
        (("rename", ("full",), ("full", "a")), "within"),
        (("rename", ("empty",), ("empty", "a")), "within"),
        (("rename", ("even",), ("dir",)), "there"),
        (("rename", ("even",), ("empty",)), "there"),
        (("rename", ("dir",), ("even",)), "there"),
        (("rename", ("empty",), ("full", "a")), "there"),
        (("rename", ("dir", "small"), ("dir",)), "there"),
        (("rename", ("empty",), ("dir",)), "not empty"),
        (("rename", ("dir", "sub"), ("dir",)), "not empty"),
        (("rename", ("full",), ("three",)), "not empty"),
        (("rename", ("even",), ("full", "new")), "crowded"),
        (("rename", ("dir",), ("full", "new")), "crowded"),
        (("rename", ("dir", "sub"), ("three", "new")), "room"),
        (("rename", ("dir", "small"), ("empty", "new")), "room"),
        (("rename", ("full", "a"), ("three", "new")), "room"),
        (("remove", ()), "root"),
        (("remove", ("gone",)), "no path"),
        (("remove", ("even", "a")), "no path"),
        (("remove", ("dir", "gone", "a")), "no path"),
        (("remove", ("dir",)), "not empty"),
        (("remove", ("dir", "sub")), "not empty"),
        (("remove", ("full",)), "not empty"),
        (("open", ("gone",)), "no path"),
        (("open", ("even", "a")), "no path"),
        (("open", ()), "no file"),
        (("open", ("dir", "sub")), "no file"),
    ])
    return found


def refusals_of_handles():
    """The same for handles; 0 and 1 are open, on "even" and "large"."""
    found = [
        (("hwrite", 0, 29, ()), "gap"),
        (("hwrite", 0, A_LOT, MOST), "gap"),
        (("hwrite", 1, 335, MOST), "gap"),
        (("hwrite", 1, 334, (1, 2, 3)), "long"),
        (("hwrite", 1, 281, MOST), "long"),
        (("hwrite", 0, 28, (1,)), "room"),
        (("hcut", 0, 29), "long"),
        (("hcut", 1, A_LOT), "long"),
    ]
    for handle in range(2, 8):
        found.extend([(("close", handle), "no handle"), (("hstat", handle), "no handle")])
        found.extend([(("hwrite", handle, A_LOT, MOST), "no handle"), (("hwrite", handle, 0, ()), "no handle")])
        found.extend([(("hcut", handle, A_LOT), "no handle"), (("hcut", handle, 0), "no handle")])
        found.extend([(("hread", handle, 0, 0), "no handle"), (("hread", handle, A_LOT, A_LOT), "no handle")])
    return found


def without_room():
    tree = tree_after(*DEEDS)
    return from_picture(tree.needs(), tree.picture())


class TestRefusals(unittest.TestCase):
    def refused(self, tree, deed, word):
        before = state_of(tree)
        self.assertEqual(tree.do(deed), ("refused", word), deed)
        self.assertEqual(state_of(tree), before, deed)

    def test_the_first_word_is_told(self):
        tree = without_room()
        for deed, word in refusals_without_room():
            self.refused(tree, deed, word)

    def test_what_room_refuses_is_done_with_room(self):
        for deed, word in refusals_without_room():
            if word == "room":
                self.assertEqual(tree_after(*DEEDS).do(deed)[0], "done", deed)

    def test_handles(self):
        tree = without_room()
        self.assertEqual(tree.do(("open", ("even",))), ("done", 0))
        self.assertEqual(tree.do(("open", ("large",))), ("done", 1))
        for deed, word in refusals_of_handles():
            self.refused(tree, deed, word)
        self.assertEqual(tree.do(("hread", 0, 0, 99)), ("done", tuple(range(28))))

    def test_eight_handles(self):
        tree = without_room()
        for handle in range(8):
            self.assertEqual(tree.do(("open", ("even",))), ("done", handle))
        self.refused(tree, ("open", ("even",)), "handles")
        self.refused(tree, ("open", ("large",)), "handles")
        self.refused(tree, ("open", ("dir",)), "no file")
        self.refused(tree, ("open", ("gone",)), "no path")

    def test_a_refused_write_keeps_the_words(self):
        tree = without_room()
        for deed in (("write", ("large",), 330, FIVE + FIVE), ("write", ("large",), 335, FIVE), ("cut", ("even",), 30),
                     ("write", ("even",), 5, MOST)):
            self.assertEqual(tree.do(deed)[0], "refused")
        self.assertEqual(tree.do(("read", ("large",), 0, A_LOT))[1], tuple(list(range(334))))
        self.assertEqual(tree.do(("read", ("even",), 0, A_LOT))[1], tuple(range(28)))

    def test_deeds_for_the_disk_are_never_refused(self):
        tree = without_room()
        before = state_of(tree)
        for deed in (("force",), ("root",), ("clean", ()), ("clean", (39,) * 40), ("clean", (3, 0))):
            self.assertEqual(tree.do(deed), ("done", None))
        self.assertEqual(state_of(tree), before)


if __name__ == "__main__":
    unittest.main()
