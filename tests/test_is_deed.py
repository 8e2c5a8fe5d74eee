"""Which things are deeds, and what Plain.do does with others [0.3, 1.1, 1.3]."""

import unittest

from support import STRANGE, bent, caught, file_of, state_of, tree_after
from trailkeep.errors import BadDeed
from trailkeep.plain import Plain, is_deed

LONG = ("abcdefgh", "z", "zzzzzzzz", "a", "b", "c", "d", "e")
MOST = 10 ** 9
RIGHT = {
    "folder": [((),), (("a",),), (LONG,)],
    "make": [((),), (("z",),), (LONG,)],
    "write": [((), 0, ()), (LONG, MOST, (MOST,) * 56), (("a",), 1, (0,))],
    "cut": [((), 0), (LONG, MOST), (("a",), 1)],
    "read": [((), 0, 0), (LONG, MOST, MOST), (("a",), 1, 1)],
    "list": [((),), (LONG,)],
    "stat": [((),), (LONG,)],
    "link": [((), ()), (LONG, LONG), (("a",), ())],
    "rename": [((), ()), (LONG, LONG), ((), ("a",))],
    "remove": [((),), (LONG,)],
    "open": [((),), (LONG,)],
    "close": [(0,), (7,), (1,)],
    "hwrite": [(0, 0, ()), (7, MOST, (MOST,) * 56), (1, 1, (1, 0))],
    "hcut": [(0, 0), (7, MOST), (1, 1)],
    "hread": [(0, 0, 0), (7, MOST, MOST), (1, 1, 1)],
    "hstat": [(0,), (7,), (1,)],
    "force": [()],
    "root": [()],
    "clean": [((),), ((39,) * 40,), ((0,),), ((5, 0, 39, 1, 1),), (tuple(range(40)),)],
}
DEEDS = [(word,) + parts for word in RIGHT for parts in RIGHT[word]]

BAD_PATHS = (
    LONG + ("a",), ("abcdefghi",), ("",), ("A",), ("aB",), ("a1",), ("a b",), ("a\n",), ("\u00e4",), ("\u0430",),
    ("a", ""), ("a", None), ("a", 0), ("a", ("b",)), ("a", ["b"]), "a", "abc", ["a"], None, 0, {}, {"a": 1}, ("`",),
    ("{",), ("a",) * 9, ("a",) * 3000, ("\u00df",), ("\u00aa",),
)
BAD_NUMBERS = (-1, MOST + 1, 10 ** 40 - 1, True, False, None, "0", "", (), (0,), [0], {})
BAD_WORDS = (
    (0,) * 57, (0,) * 3000, (-1,), (MOST + 1,), (0, True), (False,), (None,), ("1",), ((1,),), ([1],), [], [1], None,
    "", "ab", 0, {}, {0: 1}, (0,) * 55 + (MOST + 1,),
)
BAD_HANDLES = (-1, 8, True, False, None, "0", (), (0,), [0], {}, 10 ** 40 - 1)
BAD_SEGMENTS = (
    (0,) * 41, (40,), (-1,), (0, 40), (True,), (0, False), (None,), ("0",), ((0,),), [], [0], None, 0, "", {}, (39, 40),
)
# The kinds of the parts of each deed, as the document lists them.
PARTS = {
    "folder": (BAD_PATHS,), "make": (BAD_PATHS,), "write": (BAD_PATHS, BAD_NUMBERS, BAD_WORDS),
    "cut": (BAD_PATHS, BAD_NUMBERS), "read": (BAD_PATHS, BAD_NUMBERS, BAD_NUMBERS), "list": (BAD_PATHS,),
    "stat": (BAD_PATHS,), "link": (BAD_PATHS, BAD_PATHS), "rename": (BAD_PATHS, BAD_PATHS), "remove": (BAD_PATHS,),
    "open": (BAD_PATHS,), "close": (BAD_HANDLES,), "hwrite": (BAD_HANDLES, BAD_NUMBERS, BAD_WORDS),
    "hcut": (BAD_HANDLES, BAD_NUMBERS), "hread": (BAD_HANDLES, BAD_NUMBERS, BAD_NUMBERS), "hstat": (BAD_HANDLES,),
    "force": (), "root": (), "clean": (BAD_SEGMENTS,),
}


def wrong_deeds():
    wrong = list(STRANGE)
    for deed in DEEDS:
        wrong.extend(bent(deed))
        wrong.extend([deed[:-1], deed + (0,), deed + ((),), deed + deed[1:] + (None,), deed[1:], (deed,)])
        for at, bad in enumerate(PARTS[deed[0]]):
            wrong.extend([deed[:at + 1] + (part,) + deed[at + 2:] for part in bad])
    for word in ("", "Make", "make ", "make\n", "mak", "delete", "done", "refused", "x" * 200):
        wrong.extend([(word,), (word, ()), (word, ("a",)), (word, 0)])
    return wrong


class TestIsDeed(unittest.TestCase):
    def test_all_nineteen_words(self):
        self.assertEqual(len(RIGHT), 19)
        for deed in DEEDS:
            self.assertIs(is_deed(deed), True, deed)
            self.assertIs(is_deed(thing=deed), True, deed)

    def test_right_deeds_are_answered(self):
        for deed in DEEDS:
            answer = Plain(1000).do(deed)
            self.assertIn(answer[0], ("done", "refused"))
            self.assertEqual(Plain(1000).do(deed=deed), answer)

    def test_wrong_deeds(self):
        for thing in wrong_deeds():
            self.assertIs(is_deed(thing), False, thing)
            self.assertIs(is_deed(thing=thing), False, thing)

    def test_the_parts_of_other_deeds_do_not_fit(self):
        forms = {word: len(parts) for word, parts in PARTS.items()}
        for word in RIGHT:
            for deed in DEEDS:
                other = (word,) + deed[1:]
                if forms[word] != forms[deed[0]]:
                    self.assertIs(is_deed(other), False, other)
        for deed in (("close", ("a",)), ("hwrite", (), 0, ()), ("write", 0, 0, ()), ("cut", 0, 0), ("hcut", (), 0)):
            self.assertIs(is_deed(deed), False, deed)


class TestBadDeed(unittest.TestCase):
    def test_wrong_deeds_raise_and_change_nothing(self):
        tree = tree_after(*file_of(("a",), 3), ("folder", ("b",)), ("open", ("a",)))
        before = state_of(tree)
        for thing in wrong_deeds():
            error = caught(tree.do, thing)
            self.assertIs(error.__class__, BadDeed, thing)
            self.assertIs(error.thing, thing)
        self.assertEqual(state_of(tree), before)
        self.assertEqual(tree.do(("hread", 0, 0, 9)), ("done", (0, 1, 2)))

    def test_by_name(self):
        with self.assertRaises(BadDeed) as error:
            Plain(1).do(deed=["force"])
        self.assertEqual(error.exception.thing, ["force"])

    def test_arguments_are_not_changed(self):
        thing = ["write", [("a",), {"at": 0}], [1]]
        Plain(1)
        self.assertIs(is_deed(thing), False)
        caught(Plain(1).do, thing)
        self.assertEqual(thing, ["write", [("a",), {"at": 0}], [1]])


if __name__ == "__main__":
    unittest.main()
