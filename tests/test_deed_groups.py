"""What each deed writes: one group, its puts and drops, and the keys that it takes [11.1, 11.2]."""

import unittest

from keyed import entry_blocks, inode, leading_to, word_blocks
from reader import Shape, judged_group
from support import blocks_of, file_of, names, watched
from trailkeep.meaning import meaning, road
from trailkeep.system import System, formatted


class Groups(unittest.TestCase):
    size = (8, 24)

    def setUp(self):
        self.disk = watched(formatted(*self.size))
        self.system = System(self.disk)
        self.shape = Shape(*self.size)

    def do(self, *deeds):
        """Deeds whose groups do not matter."""
        for deed in deeds:
            self.assertEqual(self.system.do(deed)[0], "done", deed)
        self.disk.told()

    def group(self, deed):
        """The puts, as a dict, and the drops of the one group that the deed writes."""
        before = dict(meaning(self.disk))
        many = len(road(self.disk))
        self.assertEqual(self.system.do(deed)[0], "done", deed)
        noted = self.disk.told()
        self.assertEqual(len(road(self.disk)), many + 1)
        segment, offset, _ = road(self.disk)[-1]
        told = judged_group(self.shape, blocks_of(self.disk), segment, offset)
        start = self.shape.place(segment, offset)
        self.assertEqual([place for place, _ in noted], list(range(start, start + 1 + len(told[4]))))
        self.assertEqual([key for key in told[4]], sorted(told[4]))
        self.assertEqual([key for key in told[5]], sorted(told[5]))
        after = dict(meaning(self.disk))
        self.assertEqual(set(told[4]), {key for key in after if before.get(key) != after[key]})
        self.assertEqual(set(told[5]), set(before) - set(after))
        self.assertEqual(self.system.living(), tuple(sorted(after)))
        return {block[2]: block[3:31] for _, block in noted[1:]}, told[5]

    def writes(self, deed, puts, drops=()):
        self.assertEqual(self.group(deed), (puts, drops))

    def nothing(self, *deeds):
        """Deeds that write nothing, whatever they answer."""
        before = blocks_of(self.disk)
        for deed in deeds:
            self.system.do(deed)
            self.assertEqual(self.disk.told(), [], deed)
        self.assertEqual(blocks_of(self.disk), before)


class TestNewNodes(Groups):
    def test_the_first_entry(self):
        for word, head in (("make", inode(1, 0, 1, ())), ("folder", inode(2, 0, 1, ()))):
            self.setUp()
            self.writes((word, ("a",)), {0: inode(2, 1, 1, (2,)), 1: head, 2: leading_to(("a", 1))})

    def test_more_entries(self):
        self.do(("make", ("b",)))
        self.writes(("make", ("a",)), {0: inode(2, 2, 1, (2,)), 2: leading_to(("a", 3), ("b", 1)), 3: inode(1, 0, 1, ())})
        self.do(("folder", ("c",)))
        self.writes(("folder", ("d",)), {0: inode(2, 4, 1, (2, 6)), 5: inode(2, 0, 1, ()), 6: leading_to(("d", 5))})
        # Only the blocks that look otherwise are put.
        self.writes(("make", ("e",)), {0: inode(2, 5, 1, (2, 6)), 6: leading_to(("d", 5), ("e", 7)),
                                       7: inode(1, 0, 1, ())})

    def test_an_entry_before_all_others(self):
        self.do(*[("make", (name,)) for name in names(7)[1:]])
        first, second, third = entry_blocks([("a", 9), ("b", 1), ("c", 3), ("d", 4), ("e", 5), ("f", 7), ("g", 8)])
        self.writes(("make", ("a",)), {0: inode(2, 7, 1, (2, 6, 10)), 2: first, 6: second, 9: inode(1, 0, 1, ()), 10: third})

    def test_the_inode_comes_before_the_block(self):
        """Keys in the middle are free: the new inode gets the least one, and the new block of the folder the next one."""
        self.do(*[("make", (name,)) for name in names(8)], ("remove", ("c",)), ("remove", ("f",)))
        self.assertEqual(self.system.living(), (0, 1, 2, 3, 5, 6, 7, 9, 11))
        self.writes(("make", ("z",)), {0: inode(2, 7, 1, (2, 6, 8)), 4: inode(1, 0, 1, ()), 8: leading_to(("z", 4))})

    def test_in_another_folder(self):
        self.do(("folder", ("d",)))
        self.writes(("make", ("d", "a")), {1: inode(2, 1, 1, (4,)), 3: inode(1, 0, 1, ()), 4: leading_to(("a", 3))})


class TestWords(Groups):
    def test_a_file_becomes_longer(self):
        self.do(("make", ("a",)))
        self.writes(("write", ("a",), 0, (7, 8)), {1: inode(1, 2, 1, (3,)), 3: word_blocks((7, 8))[0]})
        self.writes(("write", ("a",), 2, (9,) * 26), {1: inode(1, 28, 1, (3,)), 3: word_blocks((7, 8) + (9,) * 26)[0]})
        self.writes(("write", ("a",), 28, (6,) * 56), {1: inode(1, 84, 1, (3, 4, 5)), 4: (6,) * 28, 5: (6,) * 28})
        self.writes(("write", ("a",), 56, (5,) * 56), {1: inode(1, 112, 1, (3, 4, 5, 6)), 5: (5,) * 28, 6: (5,) * 28})

    def test_new_blocks_get_the_least_keys(self):
        self.do(*file_of(("a",), 56), ("make", ("b",)), ("make", ("c",)), ("remove", ("a",)))
        self.assertEqual(self.system.living(), (0, 2, 5, 6))
        self.writes(("write", ("c",), 0, (7,) * 56), {1: (7,) * 28, 3: (7,) * 28, 6: inode(1, 56, 1, (1, 3))})
        self.writes(("write", ("c",), 56, (8,) * 29), {4: (8,) * 28, 6: inode(1, 85, 1, (1, 3, 4, 7)), 7: word_blocks((8,))[0]})

    def test_only_what_differs(self):
        self.do(*file_of(("a",), 84))
        self.writes(("write", ("a",), 30, (5,)), {4: tuple(range(28, 30)) + (5,) + tuple(range(31, 56))})
        self.writes(("write", ("a",), 27, (27, 28, 1)), {4: (28, 1, 5) + tuple(range(31, 56))})
        self.writes(("write", ("a",), 84, (0,)), {1: inode(1, 85, 1, (3, 4, 5, 6)), 6: (0,) * 28})
        # Zeros behind the last word are there already.
        self.writes(("write", ("a",), 85, (0,) * 27), {1: inode(1, 112, 1, (3, 4, 5, 6))})
        self.nothing(("write", ("a",), 0, tuple(range(27))), ("write", ("a",), 5, ()), ("write", ("a",), 112, ()))

    def test_by_a_handle(self):
        self.do(("make", ("a",)), ("open", ("a",)))
        self.writes(("hwrite", 0, 0, (7,) * 29), {1: inode(1, 29, 1, (3, 4)), 3: (7,) * 28, 4: word_blocks((7,))[0]})
        self.nothing(("hwrite", 0, 0, (7,)), ("hwrite", 0, 29, ()), ("hcut", 0, 29), ("hread", 0, 0, 9), ("hstat", 0))
        self.writes(("hcut", 0, 28), {1: inode(1, 28, 1, (3,))}, (4,))

    def test_a_file_becomes_shorter(self):
        self.do(*file_of(("a",), 112))
        self.writes(("cut", ("a",), 111), {1: inode(1, 111, 1, (3, 4, 5, 6)), 6: word_blocks(range(84, 111))[0]})
        self.writes(("cut", ("a",), 84), {1: inode(1, 84, 1, (3, 4, 5))}, (6,))
        self.writes(("cut", ("a",), 29), {1: inode(1, 29, 1, (3, 4)), 4: word_blocks((28,))[0]}, (5,))
        self.nothing(("cut", ("a",), 29), ("cut", ("a",), 30))
        self.writes(("cut", ("a",), 0), {1: inode(1, 0, 1, ())}, (3, 4))
        self.nothing(("cut", ("a",), 0))

    def test_the_longest_file(self):
        self.do(*file_of(("a",), 336))
        self.writes(("cut", ("a",), 0), {1: inode(1, 0, 1, ())}, tuple(range(3, 15)))

    def test_a_zero_at_the_end(self):
        self.do(("make", ("a",)), ("write", ("a",), 0, (5, 0, 0)))
        self.writes(("cut", ("a",), 1), {1: inode(1, 1, 1, (3,))})
        self.writes(("write", ("a",), 1, (0,)), {1: inode(1, 2, 1, (3,))})


class TestLinks(Groups):
    def test_a_link(self):
        self.do(*file_of(("a",), 3))
        self.writes(("link", ("a",), ("b",)), {0: inode(2, 2, 1, (2,)), 1: inode(1, 3, 2, (3,)),
                                               2: leading_to(("a", 1), ("b", 1))})
        self.do(("folder", ("d",)))
        self.writes(("link", ("b",), ("d", "c")), {1: inode(1, 3, 3, (3,)), 4: inode(2, 1, 1, (5,)), 5: leading_to(("c", 1))})
        self.writes(("remove", ("a",)), {0: inode(2, 2, 1, (2,)), 1: inode(1, 3, 2, (3,)), 2: leading_to(("b", 1), ("d", 4))})
        self.nothing(("rename", ("b",), ("d", "c")), ("rename", ("b",), ("b",)), ("rename", ("d",), ("d",)))
        self.writes(("remove", ("d", "c")), {1: inode(1, 3, 1, (3,)), 4: inode(2, 0, 1, ())}, (5,))
        self.writes(("remove", ("b",)), {0: inode(2, 1, 1, (2,)), 2: leading_to(("d", 4))}, (1, 3))

    def test_remove(self):
        self.do(*[("make", (name,)) for name in "abcd"], ("folder", ("e",)))
        self.assertEqual(self.system.living(), (0, 1, 2, 3, 4, 5, 6, 7))
        first, second = entry_blocks([("a", 1), ("b", 3), ("d", 5), ("e", 7)])
        self.writes(("remove", ("c",)), {0: inode(2, 4, 1, (2, 6)), 2: first, 6: second}, (4,))
        self.writes(("remove", ("e",)), {0: inode(2, 3, 1, (2,))}, (6, 7))
        self.do(("remove", ("a",)), ("remove", ("b",)))
        self.writes(("remove", ("d",)), {0: inode(2, 0, 1, ())}, (2, 5))

    def test_a_file_that_a_handle_holds(self):
        self.do(*file_of(("a",), 30), ("open", ("a",)), ("open", ("a",)))
        self.writes(("remove", ("a",)), {0: inode(2, 0, 1, ()), 1: inode(1, 30, 0, (3, 4))}, (2,))
        self.assertEqual(self.system.living(), (0, 1, 3, 4))
        self.writes(("hwrite", 1, 28, (9,) * 56), {1: inode(1, 84, 0, (3, 4, 2)), 2: (9,) * 28, 4: (9,) * 28})
        self.writes(("hcut", 0, 56), {1: inode(1, 56, 0, (3, 4))}, (2,))
        self.nothing(("close", 0))
        puts, drops = self.group(("close", 1))
        self.assertEqual((puts, drops), ({}, (1, 3, 4)))

    def test_the_longest_file_that_a_handle_holds(self):
        self.do(*file_of(("a",), 336), ("open", ("a",)), ("remove", ("a",)))
        self.assertEqual(self.group(("close", 0)), ({}, (1,) + tuple(range(3, 15))))
        self.assertEqual(self.system.living(), (0,))

    def test_close_and_open_write_nothing(self):
        self.do(*file_of(("a",), 5))
        self.nothing(("open", ("a",)), ("close", 0), ("open", ("a",)), ("open", ("a",)), ("close", 0), ("close", 1))


class TestRenames(Groups):
    def test_within_a_folder(self):
        self.do(("make", ("b",)), ("make", ("c",)))
        self.writes(("rename", ("b",), ("d",)), {2: leading_to(("c", 3), ("d", 1))})
        self.do(*[("make", (name,)) for name in "efgh"])
        first, second = entry_blocks([("a", 8), ("c", 3), ("d", 1), ("e", 4), ("f", 5), ("g", 7)])
        self.writes(("rename", ("h",), ("a",)), {2: first, 6: second})

    def test_between_folders(self):
        self.do(("folder", ("d",)), ("make", ("d", "a")), ("folder", ("e",)))
        self.assertEqual(self.system.living(), (0, 1, 2, 3, 4, 5))
        # The block that the one folder gives up is the least key for the other one; it has the same content, too.
        self.assertEqual(self.group(("rename", ("d", "a"), ("e", "a"))), ({1: inode(2, 0, 1, ()), 5: inode(2, 1, 1, (4,))}, ()))
        self.writes(("rename", ("e", "a"), ("d", "b")), {1: inode(2, 1, 1, (4,)), 4: leading_to(("b", 3)),
                                                         5: inode(2, 0, 1, ())})

    def test_a_lesser_key_is_free(self):
        self.do(("make", ("x",)), ("folder", ("d",)), ("make", ("d", "a")), ("folder", ("e",)), ("remove", ("x",)))
        self.assertEqual(self.system.living(), (0, 2, 3, 4, 5, 6))
        self.writes(("rename", ("d", "a"), ("e", "a")), {1: leading_to(("a", 4)), 3: inode(2, 0, 1, ()),
                                                         6: inode(2, 1, 1, (1,))}, (5,))

    def test_the_last_block_is_given_up(self):
        """The source has four entries; its last block is given up, though the entry stood in the first one."""
        self.do(("folder", ("d",)), *[("make", ("d", name)) for name in "abcd"], ("folder", ("e",)))
        self.assertEqual(self.system.living(), tuple(range(10)))
        self.writes(("rename", ("d", "a"), ("e", "a")), {
            1: inode(2, 3, 1, (4,)), 4: leading_to(("b", 5), ("c", 6), ("d", 7)), 8: leading_to(("a", 3)),
            9: inode(2, 1, 1, (8,))})

    def test_over_a_file(self):
        self.do(*file_of(("a",), 3), *file_of(("b",), 30))
        self.writes(("rename", ("a",), ("b",)), {0: inode(2, 1, 1, (2,)), 2: leading_to(("b", 1))}, (4, 5, 6))
        self.do(("folder", ("d",)), *file_of(("d", "c"), 1))
        self.assertEqual(self.system.living(), (0, 1, 2, 3, 4, 5, 6, 7))
        self.writes(("rename", ("d", "c"), ("b",)), {2: leading_to(("b", 5), ("d", 4)), 4: inode(2, 0, 1, ())}, (1, 3, 6))

    def test_over_one_of_several_entries(self):
        self.do(*file_of(("a",), 3), *file_of(("b",), 3), ("link", ("b",), ("c",)))
        self.writes(("rename", ("a",), ("b",)), {0: inode(2, 2, 1, (2,)), 2: leading_to(("b", 1), ("c", 4)),
                                                 4: inode(1, 3, 1, (5,))})

    def test_over_a_file_that_a_handle_holds(self):
        self.do(*file_of(("a",), 3), *file_of(("b",), 3), ("open", ("b",)))
        self.writes(("rename", ("a",), ("b",)), {0: inode(2, 1, 1, (2,)), 2: leading_to(("b", 1)), 4: inode(1, 3, 0, (5,))})
        self.assertEqual(self.group(("close", 0)), ({}, (4, 5)))

    def test_over_an_empty_folder(self):
        self.do(("folder", ("d",)), ("make", ("d", "x")), ("folder", ("e",)), ("folder", ("e", "f")))
        self.assertEqual(self.system.living(), tuple(range(8)))
        self.writes(("rename", ("d",), ("e", "f")), {0: inode(2, 1, 1, (2,)), 2: leading_to(("e", 5)),
                                                     7: leading_to(("f", 1))}, (6,))

    def test_a_folder_keeps_its_blocks(self):
        self.do(("folder", ("d",)), ("make", ("d", "x")), ("folder", ("e",)))
        self.writes(("rename", ("d",), ("e", "d")), {0: inode(2, 1, 1, (2,)), 2: leading_to(("e", 5)),
                                                     5: inode(2, 1, 1, (6,)), 6: leading_to(("d", 1))})


class TestNoGroup(Groups):
    def test_deeds_that_only_tell(self):
        self.do(*file_of(("a",), 5), ("folder", ("d",)), ("open", ("a",)))
        self.nothing(("read", ("a",), 0, 9), ("list", ()), ("stat", ("a",)), ("stat", ()), ("hread", 0, 0, 9), ("hstat", 0),
                     ("clean", (0, 1, 2)), ("clean", ()))

    def test_refused_deeds(self):
        self.do(*file_of(("a",), 5), ("folder", ("d",)), ("make", ("d", "x")))
        self.nothing(("make", ("a",)), ("folder", ()), ("write", ("a",), 6, (1,)), ("write", ("d",), 0, (1,)), ("cut", ("a",), 6),
                     ("link", ("d",), ("e",)), ("link", ("a",), ("d", "x")), ("rename", ("a",), ("d",)), ("rename", (), ("e",)),
                     ("rename", ("d",), ("d", "e")), ("remove", ("d",)), ("remove", ("e",)), ("open", ("e",)), ("close", 0),
                     ("hwrite", 0, 0, (1,)), ("hcut", 3, 0))

    def test_force_and_root_write_no_group(self):
        self.do(*file_of(("a",), 5))
        for deed in (("force",), ("root",)):
            before = meaning(self.disk)
            self.system.do(deed)
            noted = self.disk.told()
            self.assertEqual([done for done in noted if done != "force" and done[0] >= self.shape.start], [])
            self.assertEqual(meaning(self.disk), before)


class TestTheGreatestGroups(Groups):
    size = (40, 24)

    def test_the_greatest_groups(self):
        """Twelve entries leave a folder one by one, from its front, and go to the front of another one."""
        self.do(("folder", ("d",)), ("folder", ("e",)), *[("make", ("d", name)) for name in names(12)])
        most = 0
        for name in reversed(names(12)):
            puts, drops = self.group(("rename", ("d", name), ("e", name)))
            most = max(most, len(puts))
            self.assertLessEqual(len(puts) + len(drops), 24)
        for name in names(12):
            puts, drops = self.group(("rename", ("e", name), ("d", name)))
            most = max(most, len(puts))
        self.assertLessEqual(most, 11)
        self.assertGreaterEqual(most, 6)


class TestWithoutFreeKeys(Groups):
    size = (6, 12)

    def test_keys_that_are_given_up_are_enough(self):
        """All N keys are in use; a file goes to another folder, which gets the block that the first one gives up."""
        self.do(("folder", ("d",)), ("make", ("d", "x")), ("folder", ("e",)), *file_of(("f",), 336), ("make", ("g",)))
        self.do(("write", ("g",), 0, (1,)))
        self.assertEqual((len(self.system.living()), self.system.needs()), (22, 22))
        given = [key for key, content in meaning(self.disk) if content == leading_to(("x", 3))]
        self.assertEqual(self.system.do(("make", ("h",))), ("refused", "room"))
        self.disk.told()
        self.assertEqual(self.group(("rename", ("d", "x"), ("e", "x"))),
                         ({1: inode(2, 0, 1, ()), 5: inode(2, 1, 1, tuple(given))}, ()))
        self.assertEqual(self.system.living(), tuple(range(22)))
        self.writes(("rename", ("e", "x"), ("d", "y")), {1: inode(2, 1, 1, tuple(given)), given[0]: leading_to(("y", 3)),
                                                         5: inode(2, 0, 1, ())})


if __name__ == "__main__":
    unittest.main()
