"""Folders in keyed blocks [10.1, 10.2], and paths."""

import itertools
import random
import unittest

from keyed import entry_blocks
from support import STRANGE, bent, caught, content, names
from test_is_deed import BAD_PATHS, LONG
from trailkeep.errors import BadEntries
from trailkeep.folders import folder_blocks, folder_entries, is_path

MOST = 10 ** 9
ROWS = (
    (), (("a", 0),), (("z", MOST),), (("abcdefgh", 1),), (("zzzzzzzz", 7),), (("a", 1), ("aa", 1), ("ab", 1)),
    (("a", 3), ("ab", 2), ("abc", 1), ("abcd", 0)), (("ab", 1), ("abcdefg", 2), ("abcdefgh", 3), ("ac", 4), ("b", 5)),
    tuple(("a" * many, many) for many in range(1, 9)),
    tuple((name, at) for at, name in enumerate(names(12))),
    tuple((name + "zzzzzzz", MOST - at) for at, name in enumerate(names(12))),
)


def drawn_rows(many):
    draw = random.Random(5)
    for _ in range(many):
        found = {"".join(draw.choice("abyz") for _ in range(draw.randint(1, 8))) for _ in range(draw.randrange(13))}
        yield tuple((name, draw.choice((0, 1, 3, 500, MOST))) for name in sorted(found))


class TestThereAndBack(unittest.TestCase):
    def check(self, entries):
        blocks = folder_blocks(entries)
        self.assertIs(blocks.__class__, tuple)
        self.assertEqual(blocks, tuple(entry_blocks(entries)))
        self.assertEqual(len(blocks), -(-len(entries) // 3))
        self.assertEqual(folder_entries(len(entries), blocks), entries)
        self.assertEqual(folder_entries(contents=blocks, size=len(entries)), entries)
        self.assertEqual(folder_blocks(entries=entries), blocks)
        self.assertEqual(folder_entries(len(entries), blocks), entries)

    def test_rows(self):
        for entries in ROWS:
            self.check(entries)

    def test_each_number_of_entries(self):
        for many in range(13):
            for size in (1, 4, 8):
                self.check(tuple((name * size, at) for at, name in enumerate(names(many))))

    def test_drawn(self):
        for entries in drawn_rows(300):
            self.check(entries)

    def test_words(self):
        self.assertEqual(folder_blocks((("ab", 3), ("c", 1), ("zzzzzzzz", 9))), (
            (1, 2) + (0,) * 6 + (3,) + (3,) + (0,) * 7 + (1,) + (26,) * 8 + (9,) + (0,),))
        self.assertEqual(folder_blocks(tuple((name, 5) for name in names(4)))[1], (4,) + (0,) * 7 + (5,) + (0,) * 19)


class TestWrongEntries(unittest.TestCase):
    wrong = (
        (("b", 1), ("a", 2)), (("a", 1), ("a", 1)), (("a", 1), ("a", 2)), (("ab", 1), ("a", 2)), (("a", 1), ("c", 1), ("b", 1)),
        tuple((name, 1) for name in names(13)), tuple((name, 1) for name in names(24)), (("", 1),), (("abcdefghi", 1),),
        (("A", 1),), (("a1", 1),), (("a ", 1),), (("a\n", 1),), (("\u00e4", 1),), (("`", 1),), (("{", 1),), (("a\x00", 1),),
        (("a", -1),), (("a", MOST + 1),), (("a", True),), (("a", False),), (("a", None),), (("a", "1"),), (("a", (1,)),),
        (("a", [1]),), (("a",),), (("a", 1, 1),), (["a", 1],), ((1, "a"),), ((None, 1),), ((("a",), 1),), ((["a"], 1),),
        ("ab",), "ab", (("a", 1), None), (("a", 1), "b"), [("a", 1)], {"a": 1}, None, 0, "", [], {}, ((),), (("a", 1), ()),
    )

    def test_wrong(self):
        for thing in self.wrong + STRANGE + tuple(bent((("a", 1), ("b", 0)))):
            if thing != () or isinstance(thing, str):
                error = caught(folder_blocks, thing)
                self.assertIs(error.__class__, BadEntries, thing)
                self.assertIs(error.thing, thing)


class TestWrongContents(unittest.TestCase):
    def raised(self, size, contents):
        error = caught(folder_entries, size, contents)
        self.assertIs(error.__class__, BadEntries, (size, contents))
        self.assertIs(error.thing.__class__, tuple)
        self.assertEqual(len(error.thing), 2)
        self.assertIs(error.thing[0], size)
        self.assertIs(error.thing[1], contents)

    def test_sizes(self):
        blocks = folder_blocks(ROWS[-1])
        for size in (13, -1, 336, 10 ** 40 - 1, True, False, None, "0", "", (), [0], {}):
            for contents in ((), blocks[:1], blocks, blocks + blocks[:1]):
                self.raised(size, contents)
        for one, other in itertools.product(range(13), repeat=2):
            blocks = folder_blocks(tuple((name, 1) for name in names(one)))
            if one != other:
                self.raised(other, blocks)

    def test_blocks(self):
        for entries in ROWS:
            size, blocks = len(entries), folder_blocks(entries)
            self.raised(size, blocks + (content(0),))
            self.raised(size, list(blocks))
            self.raised(size, None)
            self.raised(size, dict.fromkeys(range(len(blocks))))
            if blocks:
                self.raised(size, blocks[:-1])
                self.raised(size, blocks + blocks[-1:])
                self.raised(size, blocks[:-1] + (list(blocks[-1]),))
                self.raised(size, blocks[:-1] + (blocks[-1][:-1],))
                self.raised(size, blocks[:-1] + (blocks[-1] + (0,),))
                self.raised(size, (blocks[0][:8] + (-1,) + blocks[0][9:],) + blocks[1:])
                self.raised(size, (blocks[0][:8] + (MOST + 1,) + blocks[0][9:],) + blocks[1:])
                self.raised(size, (blocks[0][:8] + (True,) + blocks[0][9:],) + blocks[1:])
                self.raised(size, (None,) + blocks[1:])
            if len(blocks) > 1:
                self.raised(size, blocks[:-2] + blocks[-1:] + blocks[-2:-1])
                self.raised(size, blocks[:1] * len(blocks))

    def means(self, size, contents):
        """The entries as the words tell them, or None."""
        if len(contents) != -(-size // 3):
            return None
        found = []
        for at in range(3 * len(contents)):
            row = contents[at // 3][at % 3 * 9:at % 3 * 9 + 9]
            letters = row[:8]
            if at >= size:
                if any(row):
                    return None
                continue
            many = letters.index(0) if 0 in letters else 8
            if many == 0 or any(letters[many:]) or max(letters) > 26:
                return None
            found.append(("".join("abcdefghijklmnopqrstuvwxyz"[word - 1] for word in letters[:many]), row[8]))
        if any(block[27] for block in contents):
            return None
        told = [name for name, _ in found]
        return tuple(found) if told == sorted(set(told)) else None

    def test_each_word(self):
        """Each word of a block is replaced: what comes is another right folder, or none."""
        right = 0
        for entries in ROWS[1:]:
            size, blocks = len(entries), folder_blocks(entries)
            for block, at in itertools.product(range(len(blocks)), range(28)):
                for word in (0, 1, 2, 3, 25, 26, 27, 28, 97, MOST):
                    other = blocks[block][:at] + (word,) + blocks[block][at + 1:]
                    contents = blocks[:block] + (other,) + blocks[block + 1:]
                    told = self.means(size, contents)
                    if told is None:
                        self.raised(size, contents)
                    else:
                        right += contents != blocks
                        self.assertEqual(folder_entries(size, contents), told)
        self.assertGreater(right, 100)

    def test_letters(self):
        for letters in ((0,) * 8, (0, 1) + (0,) * 6, (1, 0, 1) + (0,) * 5, (27,) + (0,) * 7, (1,) * 7 + (27,),
                        (1,) * 6 + (0, 1), (97,) + (0,) * 7, (MOST,) * 8):
            self.raised(1, (letters + (5,) + (0,) * 19,))
            self.raised(2, ((1,) + (0,) * 7 + (5,) + letters + (5,) + (0,) * 10,))
        # Two names that differ by a letter beyond z alone are not taken for one another.
        self.raised(2, ((1,) + (0,) * 7 + (5,) + (1, 27) + (0,) * 6 + (6,) + (0,) * 10,))

    def test_any_contents(self):
        blocks = folder_blocks(ROWS[-1])
        for thing in STRANGE + tuple(bent(blocks[:2])):
            self.raised(4, thing)
            if thing != ():
                self.raised(0, thing)
            self.raised(thing if thing.__class__ is not int else -1, blocks)

    def test_lists_stay(self):
        thing = [["a", 1], {"a": [1]}]
        for call in (lambda: folder_blocks(thing), lambda: folder_entries(1, thing), lambda: folder_entries(thing, ())):
            self.assertIsNotNone(caught(call))
        self.assertEqual(thing, [["a", 1], {"a": [1]}])


class TestPaths(unittest.TestCase):
    def test_right(self):
        for path in ((), ("a",), ("z",), LONG, ("a", "a"), ("abcdefgh",) * 8):
            self.assertIs(is_path(path), True)
            self.assertIs(is_path(thing=path), True)

    def test_wrong(self):
        for thing in BAD_PATHS + STRANGE + tuple(bent(("a", "bc"))):
            # Some of what the package returns happens to be a path.
            letters = isinstance(thing, tuple) and all(isinstance(part, str) and part.isalpha() for part in thing)
            if thing in BAD_PATHS or not letters:
                self.assertIs(is_path(thing), False, thing)


if __name__ == "__main__":
    unittest.main()
