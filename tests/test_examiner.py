"""Owners and certificates, and pictures as keyed blocks [13.1, 13.2]."""

import random
import unittest

from broken import EMPTY_TREE, PICTURE, RIGHT, WRONG, changed
from keyed import inode, keyed_under, leading_to, many_blocks, nodes_of_picture
from second_walk import bears, certificate, told_inode
from support import STRANGE, bent, caught, content, names
from test_model import Drawn
from test_pictures import RIGHT as RIGHT_PICTURES
from test_pictures import WRONG as WRONG_PICTURES
from trailkeep.errors import BadKeyed, BadPicture, Broken
from trailkeep.examiner import blocks_of, examine, examine_holds, tree_of
from trailkeep.plain import Plain

MOST = 10 ** 9


def needs(picture):
    return sum(1 + many_blocks(node) for node in nodes_of_picture(picture).values())


def drawn_picture(draw, seed):
    """The picture of a tree behind some deeds."""
    tree = Plain(draw.choice((10, 25, 60, 200)))
    drawn = Drawn(seed, draw.choice(("abc", "abcdefgh")), draw.choice((1, 2, 4)), (0, 1, 28, 29, 56, 84, 100))
    for _ in range(draw.choice((5, 40, 150))):
        tree.do(drawn.deed())
    return tree.picture()


def drawn_keys(draw, many, most=828):
    """So many keys in any order, 0 before the others."""
    return [0] + draw.sample(range(1, most), many - 1)


def drawn_blocks(seed, most=828):
    """Keyed blocks that bear a tree, under keys in any order, with others beside them."""
    draw = random.Random(seed)
    picture = drawn_picture(draw, seed)
    keys = drawn_keys(draw, needs(picture), max(most, needs(picture) + 4))
    blocks = dict(keyed_under(picture, keys))
    for key in draw.sample(range(1, 828), draw.choice((0, 0, 1, 5))):
        blocks.setdefault(key, draw.choice((content(0), inode(1, 0, 1, ()), inode(2, 1, 1, (0,)), content(MOST))))
    return picture, tuple(sorted(blocks.items()))


class TestCertificates(unittest.TestCase):
    def check(self, blocks):
        told = examine(blocks)
        self.assertEqual(told, certificate(blocks))
        self.assertEqual(told[0] == "tree", bears(blocks), blocks)
        self.assertIs(examine_holds(blocks, told), True)
        self.assertEqual(examine(blocks), told)
        if told[0] == "wrong":
            error = caught(tree_of, blocks)
            self.assertIs(error.__class__, Broken)
            self.assertEqual(error.kind, told[1])
        return told

    def test_a_tree(self):
        self.assertEqual(self.check(RIGHT), ("tree", (
            (0, ("root",)), (1, ("block", 3, 1)), (2, ("block", 0, 0)), (3, ("entry", 0, "b")), (4, ("block", 7, 0)),
            (5, ("entry", 0, "c")), (7, ("entry", 0, "a")), (8, ("block", 3, 0)), (9, ("entry", 7, "y"))), ()))
        self.assertEqual(self.check(EMPTY_TREE), ("tree", ((0, ("root",)),), ()))
        self.assertEqual(examine(blocks=RIGHT), examine(RIGHT))
        self.assertEqual(tree_of(blocks=RIGHT), PICTURE)

    def test_keys_beside_the_tree(self):
        more = changed(RIGHT, k6=content(5), k10=inode(1, 0, 1, ()), k827=inode(2, 3, 1, (0,)))
        self.assertEqual(self.check(more), examine(RIGHT)[:2] + ((6, 10, 827),))
        self.assertEqual(tree_of(more), PICTURE)

    def test_the_entry_that_owns_a_file(self):
        """The one in the folder with the least key, and there the one with the least name."""
        tree = (("folder", (("d", 1), ("e", 2))), ("folder", (("a", 3), ("z", 3))), ("folder", (("b", 3), ("c", 3))), ("file", ()))
        self.assertEqual(dict(self.check(keyed_under(tree, (0, 5, 3, 9, 1, 2, 4)))[1])[9], ("entry", 3, "b"))
        self.assertEqual(dict(self.check(keyed_under(tree, (0, 3, 5, 9, 1, 2, 4)))[1])[9], ("entry", 3, "a"))
        tree = (("folder", (("d", 1), ("f", 2))), ("folder", (("a", 2),)), ("file", ()))
        self.assertEqual(dict(self.check(keyed_under(tree, (0, 5, 9, 1, 2)))[1])[9], ("entry", 0, "f"))

    def test_each_kind_of_wrong(self):
        for kind, key, blocks in WRONG:
            self.assertEqual(self.check(blocks), ("wrong", kind, key))
        self.assertEqual({kind for kind, _, _ in WRONG}, {"inode", "lacking", "twice", "block", "links"})

    def test_great_keys(self):
        tree = (("folder", (("a", 1),)), ("file", (7,)))
        self.assertEqual(self.check(keyed_under(tree, (0, 827, 826, 825)))[1],
                         ((0, ("root",)), (825, ("block", 827, 0)), (826, ("block", 0, 0)), (827, ("entry", 0, "a"))))

    def test_drawn_trees(self):
        for seed in range(120):
            picture, blocks = drawn_blocks(seed)
            told = self.check(blocks)
            self.assertEqual((told[0], tree_of(blocks)), ("tree", picture))

    def test_drawn_trees_bent(self):
        """Words, contents and keys are replaced; all kinds come, and now and then it is still a tree."""
        seen = {}
        for seed in range(2500):
            draw = random.Random(seed)
            _, blocks = drawn_blocks(seed % 90, 40)
            for _ in range(draw.choice((1, 1, 1, 2, 4))):
                blocks = self.bent(draw, blocks)
            told = self.check(blocks)
            kind = told[1] if told[0] == "wrong" else "tree"
            seen[kind] = seen.get(kind, 0) + 1
        self.assertEqual(set(seen), {"inode", "lacking", "twice", "block", "links", "tree"})
        self.assertGreater(min(seen.values()), 60, seen)

    def bent(self, draw, blocks):
        """The blocks with one thing otherwise."""
        table = dict(blocks) or {0: content(0)}
        keys = sorted(table)
        inodes = [key for key in keys if told_inode(table, key)] or keys
        key, luck = draw.choice(keys), draw.random()
        if luck < 0.15:
            del table[key]
        elif luck < 0.2:
            table[draw.choice(keys + [draw.randrange(828)])] = table[key]
        elif luck < 0.3:
            key = draw.choice(inodes)
            table[key] = self.replaced(table[key], 2, draw.randrange(4))
        elif luck < 0.4:
            table[key] = self.replaced(table[key], draw.randrange(28), draw.choice((0, 1, 2, 26, 27, MOST)))
        elif luck < 0.7:
            key = draw.choice(inodes)
            table[key] = self.replaced(table[key], draw.choice((3, 3, 4, 5)), draw.choice(keys + [draw.randrange(830)]))
        else:
            table[key] = self.replaced(table[key], draw.choice((8, 8, 17, 26)), draw.choice(keys + [draw.randrange(830)]))
        return tuple(sorted(table.items()))

    @staticmethod
    def replaced(words, at, word):
        return words[:at] + (word,) + words[at + 1:]

    def test_deep_and_wide_trees(self):
        for picture in RIGHT_PICTURES:
            if needs(picture) <= 828:
                self.assertEqual(self.check(keyed_under(picture, range(needs(picture))))[0], "tree")
                keys = drawn_keys(random.Random(2), needs(picture))
                self.assertEqual(tree_of(keyed_under(picture, keys)), picture)


class TestHolds(unittest.TestCase):
    def test_other_certificates(self):
        more = changed(RIGHT, k6=content(5), k11=content(0))
        for blocks in (RIGHT, EMPTY_TREE, more, (), WRONG[8][2]):
            told = examine(blocks)
            self.assertIs(examine_holds(blocks=blocks, thing=told), True)
            for thing in bent(told) + list(STRANGE) + [told[:-1], told + ((),), (told,), list(told), told[::-1]]:
                self.assertIs(examine_holds(blocks, thing), False, thing)

    def test_with_one_part_otherwise(self):
        told = examine(changed(RIGHT, k6=content(5), k11=content(0)))
        blocks = changed(RIGHT, k6=content(5), k11=content(0))
        others = [thing for thing in self.others(told) if repr(thing) != repr(told)]
        self.assertGreater(len(others), 200)
        for thing in others:
            self.assertIs(examine_holds(blocks, thing), False, thing)

    def others(self, thing):
        """Things with one part otherwise, left out, repeated or exchanged with the next one, at any depth."""
        if isinstance(thing, tuple):
            found = [thing[:at] + (other,) + thing[at + 1:] for at, part in enumerate(thing) for other in self.others(part)]
            found += [thing[:at] + thing[at + 1:] for at in range(len(thing))]
            found += [thing[:at] + thing[at:at + 1] + thing[at:] for at in range(len(thing))]
            found += [thing[:at] + thing[at + 1:at + 2] + thing[at:at + 1] + thing[at + 2:] for at in range(len(thing) - 1)]
            return found + [list(thing)]
        if isinstance(thing, int):
            return [thing + 1, str(thing)] + ([bool(thing)] if thing in (0, 1) else [])
        return [thing + "a", None]

    def test_of_other_blocks(self):
        for _, _, blocks in WRONG:
            self.assertIs(examine_holds(RIGHT, examine(blocks)), False)
            self.assertIs(examine_holds(blocks, examine(RIGHT)), False)
        self.assertIs(examine_holds((), ("wrong", "inode", False)), False)
        self.assertIs(examine_holds((), ("wrong", "inode", 0)), True)


class TestBadKeyed(unittest.TestCase):
    wrong = (
        None, 0, "", [], {}, list(RIGHT), dict(RIGHT), RIGHT[::-1], RIGHT[:1] + RIGHT, RIGHT + RIGHT[-1:], RIGHT[1:2] + RIGHT[:1],
        ((-1, content(1)),), ((828, content(1)),), ((MOST, content(1)),), ((True, content(1)),), ((False, content(1)),),
        (("0", content(1)),), ((None, content(1)),), (((0,), content(1)),), (([0], content(1)),), ((0, (1,) * 27),),
        ((0, (1,) * 29),), ((0, [1] * 28),), ((0, (True,) + (0,) * 27),), ((0, (-1,) + (0,) * 27),),
        ((0, (MOST + 1,) + (0,) * 27),), ((0, None),), ((0,),), ((0, content(1), 2),), ([0, content(1)],), (content(1),), (0,),
        ((content(1), 0),), (None,), ((),), RIGHT + (None,), RIGHT + ((828, content(1)),), RIGHT + ([827, content(1)],),
    )

    def test_wrong(self):
        for thing in self.wrong + STRANGE + tuple(bent(RIGHT[:3])):
            if thing in ((), ((3, (9,) * 28),)) and not isinstance(thing, str):
                continue
            for call, parts in ((examine, ()), (examine_holds, (None,)), (examine_holds, (thing,)), (tree_of, ())):
                error = caught(call, thing, *parts)
                self.assertIs(error.__class__, BadKeyed, thing)
                self.assertIs(error.thing, thing)

    def test_the_greatest_key(self):
        self.assertEqual(examine(EMPTY_TREE + ((827, content(1)),))[2], (827,))

    def test_first_the_blocks_are_wrong(self):
        self.assertIs(caught(tree_of, ((0, content(1)), (828, content(1)))).__class__, BadKeyed)
        self.assertIs(caught(tree_of, ((0, content(1)), (827, content(1)))).__class__, Broken)

    def test_lists_stay(self):
        thing = [[0, [1]], {"a": [1]}]
        for call in (examine, tree_of, blocks_of):
            self.assertIsNotNone(caught(call, thing))
        examine_holds((), thing)
        self.assertEqual(thing, [[0, [1]], {"a": [1]}])


class TestPictures(unittest.TestCase):
    def check(self, picture):
        blocks = blocks_of(picture)
        self.assertEqual(blocks, keyed_under(picture, range(needs(picture))))
        self.assertEqual([key for key, _ in blocks], list(range(needs(picture))))
        told = examine(blocks)
        self.assertEqual((told[0], told[2]), ("tree", ()))
        self.assertEqual(tree_of(blocks), picture)
        self.assertEqual(blocks_of(picture=picture), blocks)

    def test_there_and_back(self):
        for picture in RIGHT_PICTURES + (PICTURE,):
            if needs(picture) <= 828:
                self.check(picture)
        for seed in range(60):
            self.check(drawn_picture(random.Random(seed), seed))

    def test_words(self):
        tree = (("folder", (("a", 1), ("b", 2))), ("file", (7,) * 29), ("folder", (("c", 1),)))
        self.assertEqual(blocks_of(tree), (
            (0, inode(2, 2, 1, (3,))), (1, inode(1, 29, 2, (4, 5))), (2, inode(2, 1, 1, (6,))), (3, leading_to(("a", 1), ("b", 2))),
            (4, (7,) * 28), (5, (7,) + (0,) * 27), (6, leading_to(("c", 1)))))

    def great(self, last):
        """A picture of 60 files in five folders, and two more files, of which one has so many words."""
        root = tuple((name, at + 1) for at, name in enumerate(names(5))) + (("x", 6), ("y", 7))
        folders = tuple(("folder", tuple((name, 8 + 12 * at + many) for many, name in enumerate(names(12)))) for at in range(5))
        files = (("file", (1,) * 336), ("file", (2,) * last)) + tuple(("file", (at,) * 336) for at in range(60))
        return (("folder", root),) + folders + files

    def test_the_greatest_pictures(self):
        # The root needs 4 blocks, the folders 5 each and the long files 13 each: without the last one there are 822.
        for last, many in ((84, 826), (112, 827), (113, 828), (140, 828), (141, 829), (336, 835)):
            picture = self.great(last)
            self.assertEqual(needs(picture), many)
            if many <= 828:
                self.check(picture)
            else:
                error = caught(blocks_of, picture)
                self.assertIs(error.__class__, BadPicture)
                self.assertIs(error.thing, picture)

    def test_many_nodes(self):
        chain = tuple(("folder", (("a", at + 1),)) for at in range(413)) + (("folder", ()),)
        self.assertEqual(needs(chain), 827)
        self.check(chain)
        self.assertIs(caught(blocks_of, (("folder", (("a", 1),)),) + tuple(
            ("folder", (("a", at + 2),)) for at in range(413)) + (("folder", ()),)).__class__, BadPicture)

    def test_wrong_pictures(self):
        for thing in WRONG_PICTURES + STRANGE + tuple(bent(PICTURE)):
            error = caught(blocks_of, thing)
            self.assertIs(error.__class__, BadPicture, thing)
            self.assertIs(error.thing, thing)


if __name__ == "__main__":
    unittest.main()
