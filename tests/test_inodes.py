"""Inodes, and files in keyed blocks [9.1 to 9.3]."""

import random
import unittest

from keyed import inode, padded, word_blocks
from support import STRANGE, bent, caught, content
from trailkeep.errors import BadContent, BadInode, BadWords
from trailkeep.inodes import file_blocks, file_words, inode_content, inode_told, is_inode

MOST = 10 ** 9
# (kind, size, how many keys)
SHAPES = (
    (1, 0, 0), (1, 1, 1), (1, 27, 1), (1, 28, 1), (1, 29, 2), (1, 56, 2), (1, 57, 3), (1, 308, 11), (1, 309, 12),
    (1, 335, 12), (1, 336, 12), (2, 0, 0), (2, 1, 1), (2, 3, 1), (2, 4, 2), (2, 6, 2), (2, 7, 3), (2, 9, 3), (2, 10, 4),
    (2, 12, 4),
)
SIZES = (0, 1, 2, 27, 28, 29, 55, 56, 57, 308, 309, 335, 336)


def keys_for(many):
    """Keys of all kinds of words, some of them twice."""
    return ((), tuple(range(1, many + 1)), (0,) * many, (MOST,) * many, tuple((7 * at + 3) % 5 for at in range(many)))


def right_parts():
    found = []
    for kind, size, many in SHAPES:
        for links in (0, 1, 2, MOST) if kind == 1 else (1,):
            found.extend([(kind, size, links, keys) for keys in keys_for(many) if len(keys) == many])
    return found


WRONG_PARTS = (
    (0, 0, 1, ()), (3, 0, 1, ()), (-1, 0, 1, ()), (MOST, 0, 1, ()), (10 ** 40 - 1, 0, 1, ()), (True, 0, 1, ()),
    ("1", 0, 1, ()), (None, 0, 1, ()), ((1,), 0, 1, ()), ([1], 0, 1, ()), ("file", 0, 1, ()),
    (1, 337, 1, (1,) * 13), (1, 337, 1, (1,) * 12), (1, -1, 1, ()), (1, False, 1, ()), (1, True, 1, (5,)), (1, "0", 1, ()),
    (1, None, 1, ()), (1, (0,), 1, ()), (1, [0], 1, ()), (1, 10 ** 40 - 1, 1, ()),
    (2, 13, 1, (1,) * 5), (2, 13, 1, (1,) * 4), (2, -1, 1, ()), (2, 28, 1, (1,)), (2, False, 1, ()), (2, 336, 1, (1,) * 12),
    (1, 0, -1, ()), (1, 0, MOST + 1, ()), (1, 0, True, ()), (1, 0, False, ()), (1, 0, None, ()), (1, 0, "1", ()),
    (1, 0, [1], ()), (2, 0, 0, ()), (2, 0, 2, ()), (2, 0, MOST, ()), (2, 0, True, ()), (2, 0, -1, ()), (2, 0, None, ()),
    (1, 0, 1, (5,)), (1, 1, 1, ()), (1, 1, 1, (5, 6)), (1, 28, 1, (5, 6)), (1, 29, 1, (5,)), (1, 29, 1, (5, 6, 7)),
    (1, 336, 1, (5,) * 11), (1, 336, 1, (5,) * 13), (2, 0, 1, (5,)), (2, 1, 1, ()), (2, 3, 1, (5, 6)), (2, 4, 1, (5,)),
    (2, 12, 1, (5,) * 5), (1, 1, 1, (-1,)), (1, 1, 1, (MOST + 1,)), (1, 1, 1, (True,)), (1, 1, 1, (None,)),
    (1, 1, 1, ("5",)), (1, 1, 1, ((5,),)), (1, 1, 1, [5]), (1, 0, 1, []), (1, 0, 1, None), (1, 0, 1, ""), (1, 1, 1, "5"),
    (1, 1, 1, 5), (1, 0, 1, 0), (1, 0, 1, {}), (1, 1, 1, {5: 5}), (1, 29, 1, (5, [6])), (1, 29, 1, (5, False)),
)


class TestInodes(unittest.TestCase):
    def test_there_and_back(self):
        for parts in right_parts():
            told = inode_content(*parts)
            self.assertEqual(told, inode(*parts))
            self.assertEqual(len(told), 28)
            self.assertEqual(inode_told(told), parts)
            self.assertIs(is_inode(told), True)
            kind, size, links, keys = parts
            self.assertEqual(inode_content(keys=keys, links=links, size=size, kind=kind), told)
            self.assertEqual(inode_told(content=told), parts)
            self.assertIs(is_inode(thing=told), True)
            self.assertEqual(inode_told(told), parts)

    def test_wrong_parts(self):
        for parts in WRONG_PARTS:
            error = caught(inode_content, *parts)
            self.assertIs(error.__class__, BadInode, parts)
            self.assertIs(error.thing.__class__, tuple)
            self.assertEqual(len(error.thing), 4)
            for one, other in zip(error.thing, parts):
                self.assertIs(one, other)

    def test_parts_of_any_kind(self):
        for parts in ((1, 30, 2, (7, 4)), (2, 4, 1, (0, 9)), (1, 0, 0, ())):
            for at in range(4):
                for thing in STRANGE + tuple(bent(parts[at])):
                    # Among the strange things, () alone may be what stood there before.
                    if thing != () or parts[at] != ():
                        other = parts[:at] + (thing,) + parts[at + 1:]
                        error = caught(inode_content, *other)
                        self.assertIs(error.__class__, BadInode, other)
                        self.assertIs(error.thing[at], thing)

    def test_each_word_of_a_content(self):
        """A content with one other word is right, with other parts, or wrong, just as the words say."""
        for parts in ((1, 30, 2, (7, 4)), (2, 4, 1, (0, 9)), (1, 0, 0, ()), (2, 0, 1, ()), (1, 336, 1, tuple(range(12)))):
            told = inode_content(*parts)
            many = len(parts[3])
            for at in range(28):
                for word in (0, 1, 2, 3, 12, 13, 28, 29, 336, 337, MOST):
                    other = told[:at] + (word,) + told[at + 1:]
                    self.check(other, self.means(other))
            self.assertEqual(self.means(told), parts)
            self.check(told[:3 + many] + (1,) + told[4 + many:], None)
            self.check(told[:27] + (1,), None)

    @staticmethod
    def means(words):
        for kind, most, part in ((1, 336, 28), (2, 12, 3)):
            if words[0] == kind and words[1] <= most and (kind == 1 or words[2] == 1):
                many = -(-words[1] // part)
                if set(words[3 + many:]) <= {0}:
                    return words[0], words[1], words[2], words[3:3 + many]
        return None

    def check(self, words, parts):
        self.assertIs(is_inode(words), parts is not None, words)
        if parts is None:
            error = caught(inode_told, words)
            self.assertIs(error.__class__, BadInode)
            self.assertIs(error.thing, words)
        else:
            self.assertEqual(inode_told(words), parts)

    def test_drawn_contents(self):
        draw = random.Random(1)
        right = 0
        for _ in range(4000):
            words = [draw.choice((1, 2, 1, 2, 3, 0)), draw.choice((0, 1, 3, 4, 12, 13, 29, 336, 337)), draw.choice((1, 1, 0, 2))]
            words += [draw.randrange(9) for _ in range(draw.choice((0, 0, 1, 1, 2, 4, 12, 13)))]
            parts = self.means(padded(words))
            self.check(padded(words), parts)
            right += parts is not None
        self.assertGreater(right, 300)

    def test_no_contents(self):
        """First the content has to be one."""
        told = inode_content(1, 30, 2, (7, 4))
        wrong = list(STRANGE) + bent(told) + [told[:-1], told + (0,), list(told), (-1,) + told[1:], told[:-1] + (MOST + 1,)]
        wrong += [(True,) + told[1:], told[:-1] + (False,), None, 0, told[:3], (1, 0, 0)]
        for thing in wrong:
            if thing != content(9):
                self.assertIs(is_inode(thing), False, thing)
                error = caught(inode_told, thing)
                self.assertIs(error.__class__, BadContent)
                self.assertIs(error.thing, thing)

    def test_bools_in_a_content(self):
        for words in ((True,) + (0,) * 27, (2, 0, True) + (0,) * 25, (1, False, 0) + (0,) * 25, (1, 0, 0) + (False,) * 25):
            self.assertIs(is_inode(words), False)
            self.assertIs(caught(inode_told, words).__class__, BadContent)


class TestFiles(unittest.TestCase):
    def test_there_and_back(self):
        for size in SIZES:
            for words in (tuple(range(1, size + 1)), (0,) * size, (MOST,) * size):
                blocks = file_blocks(words)
                self.assertIs(blocks.__class__, tuple)
                self.assertEqual(blocks, tuple(word_blocks(words)))
                self.assertEqual(len(blocks), -(-size // 28))
                self.assertEqual(file_words(size, blocks), words)
                self.assertEqual(file_words(contents=blocks, size=size), words)
                self.assertEqual(file_blocks(words=words), blocks)
                self.assertEqual(file_blocks(words), blocks)

    def test_wrong_words(self):
        wrong = list(STRANGE) + bent((0, 5, MOST)) + [(0,) * 337, [0], (0, -1), (MOST + 1,), (True,), (0, False), "", "ab"]
        for thing in wrong:
            if thing not in ((), content(9)) or isinstance(thing, str):
                error = caught(file_blocks, thing)
                self.assertIs(error.__class__, BadWords, thing)
                self.assertIs(error.thing, thing)

    def raised(self, size, contents):
        error = caught(file_words, size, contents)
        self.assertIs(error.__class__, BadWords, (size, contents))
        self.assertIs(error.thing.__class__, tuple)
        self.assertEqual(len(error.thing), 2)
        self.assertIs(error.thing[0], size)
        self.assertIs(error.thing[1], contents)

    def test_wrong_sizes(self):
        blocks = file_blocks((1,) * 336)
        for size in (337, -1, 10 ** 40 - 1, True, False, None, "0", "", (), [0], {}):
            for contents in ((), blocks[:1], blocks, blocks + blocks[:1]):
                self.raised(size, contents)

    def test_wrong_blocks(self):
        for size in SIZES:
            blocks = file_blocks(tuple(range(1, size + 1)))
            self.raised(size, blocks + (content(0),))
            self.raised(size, list(blocks))
            self.raised(size, None)
            self.raised(size, dict.fromkeys(range(len(blocks))))
            if blocks:
                self.raised(size, blocks[:-1])
                self.raised(size, blocks + blocks[-1:])
                self.raised(size, blocks[:-1] + (list(blocks[-1]),))
                self.raised(size, blocks[:-1] + (blocks[-1][:-1],))
                self.raised(size, blocks[:-1] + (blocks[-1] + (0,),))
                self.raised(size, blocks[:-1] + (blocks[-1][:-1] + (-1,),))
                self.raised(size, blocks[:-1] + (blocks[-1][:-1] + (MOST + 1,),))
                self.raised(size, ((True,) + blocks[0][1:],) + blocks[1:])
                self.raised(size, (False,) + blocks[1:])

    def test_words_behind_the_last_one(self):
        for size in SIZES:
            blocks = file_blocks((3,) * size)
            for at in range(-(-size // 28) * 28 - size):
                last = blocks[-1][:27 - at] + (1,) + blocks[-1][28 - at:]
                self.raised(size, blocks[:-1] + (last,))
            for other in range(max(0, size - 30), min(337, size + 30)):
                if -(-other // 28) == len(blocks) and other > size:
                    self.assertEqual(file_words(other, blocks), (3,) * size + (0,) * (other - size))
                elif other != size:
                    self.raised(other, blocks)

    def test_any_contents(self):
        blocks = file_blocks((5,) * 30)
        for thing in STRANGE + tuple(bent(blocks)):
            self.raised(30, thing)
            if thing != ():
                self.raised(0, thing)
            self.raised(thing if thing.__class__ is not int else -1, blocks)

    def test_lists_stay(self):
        thing = [[5], {"a": [1]}]
        for call in (lambda: file_blocks(thing), lambda: file_words(1, thing), lambda: inode_told(thing)):
            self.assertIsNotNone(caught(call))
        self.assertEqual(thing, [[5], {"a": [1]}])


if __name__ == "__main__":
    unittest.main()
