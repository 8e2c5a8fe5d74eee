"""What trees need, and their room [1.4]."""

import unittest

from support import STRANGE, caught, file_of, folder_of, names, state_of, tree_after
from trailkeep.errors import BadRoom
from trailkeep.plain import Plain, from_picture

EMPTY = (("folder", ()),)


class TestNeeds(unittest.TestCase):
    def test_folders(self):
        for many, needs in ((0, 1), (1, 2), (2, 2), (3, 2), (4, 3), (6, 3), (7, 4), (9, 4), (10, 5), (12, 5)):
            tree = tree_after(*[("make", (name,)) for name in names(many)])
            self.assertEqual(tree.needs(), needs + many)
            self.assertEqual(from_picture(needs + many, tree.picture()).needs(), needs + many)

    def test_files(self):
        for size, needs in ((0, 1), (1, 2), (28, 2), (29, 3), (56, 3), (57, 4), (335, 13), (336, 13)):
            tree = tree_after(*file_of(("a",), size))
            self.assertEqual(tree.needs(), 2 + needs)
            self.assertEqual(from_picture(2 + needs, tree.picture()).needs(), 2 + needs)

    def test_a_file_in_several_entries_needs_its_blocks_once(self):
        tree = tree_after(*file_of(("a",), 56), ("link", ("a",), ("b",)), ("link", ("a",), ("c",)))
        self.assertEqual(tree.needs(), 2 + 3)
        tree.do(("link", ("a",), ("d",)))
        self.assertEqual(tree.needs(), 3 + 3)

    def test_blocks_come_free(self):
        tree = tree_after(*folder_of(("d",), 4), *file_of(("e",), 57))
        self.assertEqual(tree.needs(), 2 + 3 + 4 + 4)
        tree.do(("cut", ("e",), 28))
        self.assertEqual(tree.needs(), 2 + 3 + 4 + 2)
        tree.do(("remove", ("d", "b")))
        self.assertEqual(tree.needs(), 2 + 2 + 3 + 2)
        tree.do(("remove", ("e",)))
        self.assertEqual(tree.needs(), 2 + 2 + 3)


class TestRoom(unittest.TestCase):
    def exactly(self, deeds, deed, more):
        """The deed needs so many more blocks: it is refused with one less, and done with just as many."""
        tree = tree_after(*deeds)
        for spare in range(more):
            tight = from_picture(tree.needs() + spare, tree.picture())
            before = state_of(tight)
            self.assertEqual(tight.do(deed), ("refused", "room"), (deed, spare))
            self.assertEqual(state_of(tight), before)
        wide = from_picture(tree.needs() + more, tree.picture())
        self.assertEqual(wide.do(deed)[0], "done", deed)
        self.assertEqual(wide.needs(), tree.needs() + more)

    def test_room_exactly(self):
        for word in ("make", "folder"):
            self.exactly([], (word, ("a",)), 2)
            self.exactly([("make", ("a",))], (word, ("b",)), 1)
            self.exactly(folder_of(("d",), 3), (word, ("d", "x")), 2)
            self.exactly(folder_of(("d",), 11), (word, ("d", "x")), 1)
        self.exactly(file_of(("a",), 0), ("write", ("a",), 0, (1,)), 1)
        self.exactly(file_of(("a",), 0), ("write", ("a",), 0, (1,) * 56), 2)
        self.exactly(file_of(("a",), 1), ("write", ("a",), 1, (1,) * 56), 2)
        self.exactly(file_of(("a",), 28), ("write", ("a",), 28, (1,)), 1)
        self.exactly(file_of(("a",), 280), ("write", ("a",), 280, (1,) * 56), 2)
        self.exactly([("folder", ("d",))] + file_of(("a",), 9), ("link", ("a",), ("d", "x")), 1)
        self.exactly(folder_of(("d",), 3), ("link", ("d", "a"), ("d", "x")), 1)
        self.exactly(folder_of(("d",), 3) + file_of(("a",), 9), ("rename", ("a",), ("d", "x")), 1)

    def test_what_needs_nothing_more_is_done_without_room(self):
        for deeds, deed in ((file_of(("a",), 27), ("write", ("a",), 0, (1,) * 28)),
                            (file_of(("a",), 28), ("write", ("a",), 28, ())),
                            (file_of(("a",), 28), ("cut", ("a",), 0)),
                            (file_of(("a",), 1), ("link", ("a",), ("b",))),
                            (file_of(("a",), 1), ("rename", ("a",), ("b",))),
                            (file_of(("a",), 1), ("open", ("a",))),
                            (folder_of(("d",), 3), ("remove", ("d", "c")))):
            tree = tree_after(*deeds)
            self.assertEqual(from_picture(tree.needs(), tree.picture()).do(deed)[0], "done", deed)

    def test_room_that_comes_free_again(self):
        tree = Plain(6)
        self.assertEqual(tree.do(("make", ("a",))), ("done", None))
        self.assertEqual(tree.do(("write", ("a",), 0, (1,) * 56)), ("done", 56))
        self.assertEqual(tree.needs(), 5)
        self.assertEqual(tree.do(("write", ("a",), 56, (1,) * 56)), ("refused", "room"))
        self.assertEqual(tree.do(("make", ("b",))), ("done", None))
        self.assertEqual(tree.do(("write", ("a",), 56, (1,))), ("refused", "room"))
        self.assertEqual(tree.do(("remove", ("b",))), ("done", None))
        self.assertEqual(tree.do(("write", ("a",), 56, (1,))), ("done", 57))
        self.assertEqual(tree.do(("folder", ("b",))), ("refused", "room"))
        self.assertEqual(tree.do(("cut", ("a",), 56)), ("done", None))
        self.assertEqual(tree.do(("folder", ("b",))), ("done", None))

    def test_the_least_room(self):
        tree = Plain(1)
        self.assertEqual(state_of(tree), (EMPTY, 1, ()))
        self.assertEqual(tree.do(("make", ("a",))), ("refused", "room"))
        self.assertEqual(tree.do(("force",)), ("done", None))


class TestBadRoom(unittest.TestCase):
    def test_rooms(self):
        for room in (1, 2, 828, 10 ** 9, 10 ** 9 + 1, 10 ** 40 - 1):
            self.assertEqual(Plain(room).needs(), 1)
            self.assertEqual(Plain(room=room).picture(), EMPTY)

    def test_wrong_rooms(self):
        wrong = [thing for thing in STRANGE if not (type(thing) is int and thing > 0)]
        for thing in [0, -1, "1", (1,), [1]] + wrong:
            for call in (lambda: Plain(thing), lambda: Plain(room=thing), lambda: from_picture(thing, EMPTY),
                         lambda: from_picture(thing, "nothing"), lambda: from_picture(picture=None, room=thing)):
                error = caught(call)
                self.assertIs(error.__class__, BadRoom, thing)
                self.assertIs(error.thing, thing)


class TestEquality(unittest.TestCase):
    def test_a_tree_is_equal_only_to_itself(self):
        tree = Plain(5)
        self.assertEqual(tree, tree)
        for other in (Plain(5), tree.fallen(), from_picture(5, EMPTY), EMPTY, 5, None):
            self.assertNotEqual(tree, other)


if __name__ == "__main__":
    unittest.main()
