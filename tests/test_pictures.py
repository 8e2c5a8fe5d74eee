"""Pictures [1.5], from_picture and is_picture."""

import itertools
import unittest

from model import Model
from support import STRANGE, bent, caught, file_of, folder_of, names, state_of, tree_after
from trailkeep.errors import BadPicture
from trailkeep.plain import Plain, from_picture, is_picture

EMPTY = (("folder", ()),)
# The numbers go level by level; the file 2 is in two entries on different levels.
TREE = (
    ("folder", (("a", 1), ("b", 2), ("c", 3))),
    ("folder", (("x", 4), ("y", 5))),
    ("file", (1, 2, 3)),
    ("folder", (("k", 5), ("l", 6), ("m", 2))),
    ("folder", ()),
    ("file", ()),
    ("file", (0, 10 ** 9)),
)
# The folder 4 is in two entries.
TWICE_TREE = TREE[:3] + (("folder", (("k", 4), ("l", 6), ("m", 2))),) + TREE[4:]


def chain(many):
    """A picture of folders, one in the other."""
    return tuple([("folder", (("a", at + 1),)) for at in range(many)]) + (("file", ()),)


def replaced(picture, at, item):
    return picture[:at] + (item,) + picture[at + 1:]


def folder(*entries):
    return ("folder", entries)


RIGHT = (
    EMPTY,
    TREE,
    (folder(("a", 1)), ("file", ())),
    (folder(("a", 1), ("b", 1), ("c", 1)), ("file", (5,))),
    (folder(("abcdefgh", 1)), ("file", (0,) * 336)),
    (folder(*[(name, 1) for name in names(12)]), ("file", (10 ** 9,))),
    (folder(*[(name, at + 1) for at, name in enumerate(names(12))]),) + (("folder", ()),) * 12,
    (folder(("a", 1), ("b", 2)), folder(("c", 2)), ("file", ())),
    (folder(("a", 1), ("b", 2)), folder(("c", 3)), ("file", ()), ("file", ())),
    (folder(("aa", 1), ("ab", 2), ("b", 3)),) + (("file", ()),) * 3,
    chain(9),
    chain(700),
)

# Pictures with one thing otherwise than it should be.
WRONG = (
    (),
    (("file", ()),),
    (("file", (1,)), ("folder", ())),
    EMPTY + EMPTY,
    EMPTY + (("file", ()),),
    (("folder",),),
    (("folder", (), ()),),
    (("folders", ()),),
    (("", ()),),
    (("folder", (0,)),),
    (folder(("a", 0)),),
    (folder(("a", 1)),),
    (folder(("a", 1), ("b", 1)),),
    (folder(("a", -1)), ("file", ())),
    (folder(("a", 2)), ("file", ())),
    (folder(("a", 10 ** 40 - 1)), ("file", ())),
    (folder(("a", 1), ("b", 2)), ("file", ())),
    (folder(("a", 2), ("b", 1)), ("file", ()), ("file", ())),
    (folder(("a", 2), ("b", 1)), ("file", ()), ("folder", ())),
    (folder(("a", 1), ("b", 1)), ("file", ()), ("file", ())),
    (folder(("a", 1), ("b", 1)), ("folder", ())),
    (folder(("a", 1), ("b", 2)), folder(("c", 2)), ("folder", ())),
    (folder(("a", 1)), folder(("b", 1))),
    (folder(("a", 1)), folder(("b", 0))),
    (folder(("a", 1), ("b", 0)), ("file", ())),
    (("folder", ()), folder(("a", 1))),
    (("folder", ()), folder(("a", 2)), ("file", ())),
    (folder(("a", 1)), ("file", ()), folder(("a", 3)), ("file", ())),
    (folder(("a", 1)), ("file", ()), folder(("a", 2))),
    (folder(("b", 1), ("a", 2)), ("file", ()), ("file", ())),
    (folder(("a", 1), ("a", 2)), ("file", ()), ("file", ())),
    (folder(("a", 1), ("a", 1)), ("file", ())),
    (folder(("b", 1), ("aa", 2)), ("file", ()), ("file", ())),
    (folder(("", 1)), ("file", ())),
    (folder(("A", 1)), ("file", ())),
    (folder(("a1", 1)), ("file", ())),
    (folder(("abcdefghi", 1)), ("file", ())),
    (folder(("\u00e4", 1)), ("file", ())),
    (folder((("a",), 1)), ("file", ())),
    (folder(("a",)), ("file", ())),
    (folder(("a", 1, 1)), ("file", ())),
    (folder(("a", "1")), ("file", ())),
    (folder(("a", None)), ("file", ())),
    (folder(("a", True)), ("file", ())),
    (folder(["a", 1]), ("file", ())),
    (folder(("a", (1,))), ("file", ())),
    (folder(("a", 1)), ("file", (True,))),
    (folder(("a", 1)), ("file", [0])),
    (folder(("a", 1)), ("file", (-1,))),
    (folder(("a", 1)), ("file", (10 ** 9 + 1,))),
    (folder(("a", 1)), ("file", (0,) * 337)),
    (folder(("a", 1)), ("file", "abc")),
    (folder(("a", 1)), ("file", None)),
    (folder(("a", 1)), ("file",)),
    (folder(("a", 1)), ("file", (), ())),
    (folder(("a", 1)), ("File", ())),
    (folder(("a", 1)), ("folder", {})),
    (folder(("a", 1)), ["file", ()]),
    (folder(*[(name, 1) for name in names(13)]), ("file", ())),
    (folder(*[(name, at + 1) for at, name in enumerate(names(13))]),) + (("file", ()),) * 13,
    chain(9)[:-1],
    chain(9) + (("file", ()),),
    chain(9)[1:],
    list(chain(3)),
    TWICE_TREE,
)


def variants(picture):
    """Pictures of which a part was left out, repeated or exchanged, so that none of them is a picture."""
    found = [picture[:-1], picture[1:], picture + picture[-1:], picture[:1] + picture, picture + picture]
    for at, item in enumerate(picture):
        for entry in range(len(item[1]) if item[0] == "folder" else 0):
            name, number = item[1][entry]
            rest = item[1][:entry], item[1][entry + 1:]
            for other in (0, len(picture), number + len(picture), -number):
                changed = rest[0] + ((name, other),) + rest[1]
                found.append(replaced(picture, at, ("folder", changed)))
            if picture[number][0] == "folder":
                found.append(replaced(picture, at, ("folder", rest[0] + rest[1])))
        if item[0] == "folder" and len(item[1]) > 1:
            found.append(replaced(picture, at, ("folder", item[1][::-1])))
    return found


def small_pictures(many):
    """All tuples of so many items with at most two entries each, whatever their numbers."""
    ends = range(many + 1)
    items = [("file", ()), folder()] + [folder((name, end)) for name in "ab" for end in ends]
    items.extend([folder(("a", end), ("b", other)) for end in ends for other in ends])
    return itertools.product(items, repeat=many)


def judged(picture):
    """Whether it is a picture: a model with such nodes has it, and each folder is in the entries that it should be."""
    model = Model(10 ** 9)
    model.nodes = {at: dict(item[1]) if item[0] == "folder" else [] for at, item in enumerate(picture)}
    ends = [end for item in picture for _, end in item[1]]
    folders = [at for at, item in enumerate(picture) if item[0] == "folder"]
    if 0 not in folders or any(end not in model.nodes for end in ends):
        return False
    return all(ends.count(at) == (at > 0) for at in folders) and model.picture() == picture


class TestIsPicture(unittest.TestCase):
    def test_all_small_pictures(self):
        right = 0
        for many in (1, 2, 3):
            for picture in small_pictures(many):
                expected = judged(picture)
                self.assertIs(is_picture(picture), expected, picture)
                right += expected
        self.assertGreater(right, 20)

    def test_right_pictures(self):
        for picture in RIGHT:
            self.assertIs(is_picture(picture), True, picture)
            self.assertIs(is_picture(thing=picture), True, picture)

    def test_wrong_pictures(self):
        for thing in WRONG + STRANGE:
            self.assertIs(is_picture(thing), False, thing)
            self.assertIs(is_picture(thing=thing), False, thing)

    def test_variants_of_right_pictures(self):
        for picture in RIGHT[:-1]:
            for thing in bent(picture) + variants(picture):
                self.assertIs(is_picture(thing), False, thing)

    def test_exchanged_numbers_and_items(self):
        exchanged = replaced(TREE, 0, folder(("a", 1), ("b", 3), ("c", 2)))
        self.assertIs(is_picture(exchanged), False)
        exchanged = replaced(replaced(TREE, 1, TREE[3]), 3, TREE[1])
        self.assertIs(is_picture(exchanged), False)
        # Words are free, and so are files in the place of one another.
        exchanged = replaced(replaced(TREE, 2, ("file", ())), 5, ("file", (1, 2, 3)))
        self.assertIs(is_picture(exchanged), True)


class TestPictureOf(unittest.TestCase):
    def test_an_empty_tree(self):
        self.assertEqual(Plain(1).picture(), EMPTY)

    def test_the_order_of_numbers(self):
        # Made in another order than that of the numbers.
        tree = tree_after(
            ("folder", ("c",)), ("make", ("c", "l")), ("write", ("c", "l"), 0, (0, 10 ** 9)), ("folder", ("a",)),
            ("make", ("a", "y")), ("link", ("a", "y"), ("c", "k")), ("make", ("c", "m")),
            ("write", ("c", "m"), 0, (1, 2, 3)), ("link", ("c", "m"), ("b",)), ("folder", ("a", "x")),
        )
        self.assertEqual(tree.picture(), TREE)

    def test_files_in_several_entries_have_one_number(self):
        tree = tree_after(*file_of(("b",), 1), ("link", ("b",), ("z",)), ("folder", ("a",)),
                          ("link", ("z",), ("a", "q")))
        self.assertEqual(tree.picture(), (folder(("a", 1), ("b", 2), ("z", 2)), folder(("q", 2)), ("file", (0,))))

    def test_numbers_follow_the_levels_not_the_branches(self):
        tree = tree_after(("folder", ("a",)), ("folder", ("a", "a")), ("make", ("a", "a", "a")), ("make", ("b",)))
        self.assertEqual(tree.picture(), (folder(("a", 1), ("b", 2)), folder(("a", 3)), ("file", ()),
                                          folder(("a", 4)), ("file", ())))

    def test_a_picture_is_not_changed_by_later_deeds(self):
        tree = tree_after(*file_of(("a",), 2))
        picture = tree.picture()
        for deed in (("write", ("a",), 0, (7,)), ("make", ("b",)), ("remove", ("a",))):
            tree.do(deed)
        self.assertEqual(picture, (folder(("a", 1)), ("file", (0, 1))))


class TestFromPicture(unittest.TestCase):
    def test_the_tree_has_the_picture(self):
        for picture in RIGHT:
            tree = from_picture(10 ** 6, picture)
            self.assertEqual(state_of(tree), (picture, tree.needs(), ()))
            self.assertEqual(from_picture(picture=picture, room=10 ** 6).picture(), picture)
            self.assertEqual(state_of(tree.fallen()), state_of(tree))

    def test_it_needs_what_its_nodes_need(self):
        self.assertEqual(from_picture(99, TREE).needs(), 2 + 2 + 2 + 2 + 1 + 1 + 2)
        self.assertEqual(from_picture(99, RIGHT[5]).needs(), 5 + 2)

    def test_it_goes_on_by_itself(self):
        tree = from_picture(20, TREE)
        other = from_picture(20, tree.picture())
        self.assertEqual(tree.do(("stat", ("b",))), ("done", ("file", 3, 2)))
        self.assertEqual(tree.do(("stat", ("c",))), ("done", ("folder", 3, 1)))
        self.assertEqual(tree.do(("write", ("c", "m"), 3, (4,))), ("done", 4))
        self.assertEqual(tree.do(("read", ("b",), 0, 9)), ("done", (1, 2, 3, 4)))
        self.assertEqual(tree.do(("remove", ("a", "x"))), ("done", None))
        self.assertEqual(tree.do(("remove", ("b",))), ("done", None))
        self.assertEqual(tree.needs(), 2 + 2 + 2 + 2 + 1 + 2)
        self.assertEqual(other.picture(), TREE)

    def test_trees_deeper_than_eight(self):
        tree = from_picture(2000, chain(700))
        self.assertEqual(tree.needs(), 1401)
        self.assertEqual(tree.do(("rename", ("a",) * 8, ("b",))), ("done", None))
        self.assertEqual(tree.do(("list", ("b",) + ("a",) * 7)), ("done", ("a",)))
        self.assertEqual(len(tree.picture()), 701)
        self.assertEqual(tree.fallen().picture(), tree.picture())

    def test_wrong_pictures(self):
        for thing in WRONG + STRANGE:
            error = caught(from_picture, 10 ** 9, thing)
            self.assertIs(error.__class__, BadPicture, thing)
            self.assertIs(error.thing, thing)
        error = caught(from_picture, picture=[], room=1)
        self.assertIs(error.__class__, BadPicture)

    def test_room_exactly(self):
        for picture in RIGHT:
            needs = from_picture(10 ** 9, picture).needs()
            self.assertEqual(from_picture(needs, picture).needs(), needs)
            if needs > 1:
                error = caught(from_picture, needs - 1, picture)
                self.assertIs(error.__class__, BadPicture)
                self.assertIs(error.thing, picture)

    def test_the_room_stays(self):
        tree = from_picture(4, (folder(("a", 1)), ("file", (1,))))
        self.assertEqual(tree.do(("write", ("a",), 0, (1,) * 29)), ("refused", "room"))
        tree = from_picture(5, (folder(("a", 1)), ("file", (1,))))
        self.assertEqual(tree.do(("write", ("a",), 0, (1,) * 29)), ("done", 29))

    def test_full_folders(self):
        tree = tree_after(*folder_of(("d",), 12))
        tree = from_picture(tree.needs() + 9, tree.picture())
        self.assertEqual(tree.do(("make", ("d", "z"))), ("refused", "crowded"))


if __name__ == "__main__":
    unittest.main()
