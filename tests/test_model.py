"""Plain against a second telling of a plain tree, over long rows of deeds that are drawn with fixed seeds."""

import random
import unittest

from model import Model
from support import file_of, state_of
from trailkeep.plain import Plain, from_picture, is_deed, is_picture

KINDS = (
    "folder folder make make make write write write cut cut read list stat link link link rename rename rename "
    "rename remove remove open open open close hwrite hwrite hcut hread hstat force root clean"
).split()


SIZES = (0, 0, 1, 2, 3, 27, 28, 29, 30, 56, 84, 280, 335, 336, 337)
GREAT_SIZES = (279, 280, 281, 308, 335, 336, 337)
GREAT_FILES = file_of(("a",), 280) + file_of(("b",), 336)


class Drawn:
    """Draws deeds whose paths often meet."""

    def __init__(self, seed, letters, depth, sizes):
        self.draw = random.Random(seed)
        self.letters = letters
        self.sizes = sizes
        self.depth = depth
        self.past = [()]

    def path(self):
        """One of the last paths, or another one, mostly below one of them."""
        path = self.draw.choice(self.past[-9:])
        luck = self.draw.random()
        if luck < 0.03:
            return ()
        if luck < 0.7:
            path = (path + (self.draw.choice(self.letters),))[-self.draw.randint(1, self.depth):]
            self.past.append(path)
        return path

    def size(self):
        return self.draw.choice(self.sizes)

    def words(self):
        return tuple(self.draw.randrange(9) for _ in range(self.draw.choice((0, 1, 2, 28, 29, 56))))

    def handle(self):
        return self.draw.choice((0, 0, 0, 1, 1, 2, 3, 7))

    def deed(self):
        kind = self.draw.choice(KINDS)
        parts = {"write": "path size words", "cut": "path size", "read": "path size size", "link": "path path",
                 "rename": "path path", "close": "handle", "hwrite": "handle size words", "hcut": "handle size",
                 "hread": "handle size size", "hstat": "handle", "force": "", "root": ""}
        if kind == "clean":
            return ("clean", (0, 3, 3))
        return (kind,) + tuple(getattr(self, part)() for part in parts.get(kind, "path").split())


class TestModel(unittest.TestCase):
    def compare(self, seed, room, letters, depth, many, sizes=SIZES, first=()):
        """Compares many deeds after some first ones; returns what kinds of answers there were."""
        drawn = Drawn(seed, letters, depth, sizes)
        tree, model = Plain(room), Model(room)
        answers = set()
        for at in range(many):
            deed = first[at] if at < len(first) else drawn.deed()
            self.assertTrue(is_deed(deed))
            answer = model.do(deed)
            answers.add((deed[0],) + answer[:1] + (answer[1:] if answer[0] == "refused" else ()))
            self.assertEqual(tree.do(deed), answer, (seed, at, deed))
            self.assertEqual(state_of(tree), state_of(model), (seed, at, deed))
            if at % 40 == 39:
                self.assertIs(is_picture(tree.picture()), True)
                self.assertEqual(state_of(tree.fallen()), state_of(model.fallen()))
                self.assertEqual(from_picture(room, tree.picture()).picture(), tree.picture())
            if at % 320 == 319:
                tree, model = tree.fallen(), model.fallen()
        return answers

    def test_rows_of_deeds(self):
        answers = set()
        for seed in range(12):
            answers |= self.compare(seed, 4 + 3 * seed, "abcdefgh", 3, 960)
            answers |= self.compare(100 + seed, 40, "abcdefghijklmn", 1, 800)
            answers |= self.compare(200 + seed, 10 ** 9, "abcdefghijklm", 2, 1600)
            answers |= self.compare(300 + seed, 10 ** 9, "ab", 6, 480)
            answers |= self.compare(400 + seed, 40 + seed, "ab", 2, 160, GREAT_SIZES, GREAT_FILES)
        # The rows are only worth something if they come to every kind of answer.
        for kind in set(KINDS):
            self.assertIn((kind, "done"), answers)
        for kind, words in (("rename", "root,no path,within,there,not empty,crowded,room"),
                            ("link", "no path,no file,there,crowded,room"),
                            ("make", "there,no path,crowded,room"), ("folder", "there,no path,crowded,room"),
                            ("write", "no path,no file,gap,long,room"), ("hwrite", "no handle,gap,long,room"),
                            ("open", "no path,no file,handles"), ("remove", "root,no path,not empty")):
            for word in words.split(","):
                self.assertIn((kind, "refused", word), answers)


if __name__ == "__main__":
    unittest.main()
