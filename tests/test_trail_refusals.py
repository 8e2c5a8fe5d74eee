"""Wrong arguments of a trail: the first wrong one is told, and nothing changes [6, 7, 0.3]."""

import unittest

from support import STRANGE, bent, blocks_of, caught, content, disk_state, pairs, trail_state, watched
from trailkeep.disk import Disk
from trailkeep.errors import BadDrops, BadKey, BadNumber, BadPolicy, BadPuts, BadSegments, PowerCut
from trailkeep.roots import made
from trailkeep.trail import Trail

MOST = 10 ** 9
TRAIL = Trail(made(6, 4))
ODD = STRANGE + (TRAIL, TRAIL.disk(), TRAIL.states(), TRAIL.uses(), ((0, content(1)),), [(0, content(1))])


def is_number(thing, least=0, most=10 ** 41):
    return type(thing) is int and least <= thing <= most


class Refusals(unittest.TestCase):
    def setUp(self):
        """A trail with the living keys 0, 1, 2, 4, whose disk has a fuse for one more call."""
        self.disk = watched(made(6, 5))
        self.trail = Trail(self.disk)
        self.trail.put(pairs(0, 1, 2, 3), ())
        self.trail.put(pairs(4), (3,))
        self.trail.force()
        self.trail.put(pairs(0, word=6), ())
        self.disk.fuse(1)
        self.disk.told()
        self.before = trail_state(self.trail), disk_state(self.disk)

    def tearDown(self):
        self.assertEqual((trail_state(self.trail), disk_state(self.disk)), self.before)
        self.assertEqual(self.disk.told(), [])
        self.trail.force()
        self.assertIs(caught(self.trail.force).__class__, PowerCut)

    def raised(self, made_of, thing, call, *parts):
        error = caught(call, *parts)
        self.assertIs(error.__class__, made_of, (call, parts))
        self.assertIs(error.thing, thing)


class TestKeys(Refusals):
    def test_keys_that_are_not_living(self):
        for thing in ODD + (3, 5, 7, 8, -1, -4, "0", (0,), [0], True, False):
            if not is_number(thing) or thing not in (0, 1, 2, 4):
                self.raised(BadKey, thing, self.trail.read, thing)
                self.raised(BadKey, thing, self.trail.place_of, thing)

    def test_how_many_free_keys(self):
        for thing in ODD + (-1, -10 ** 39, "1", (1,), [1], True, False):
            if not is_number(thing):
                self.raised(BadNumber, thing, self.trail.free_keys, thing)

    def test_what_is_forgotten(self):
        self.assertIsNone(caught(self.trail.forget, ()))
        wrong = [(3,), (5,), (8,), (1, 0), (0, 0), (0, 1, 3), (0, 1, 1), (-1, 0), (True,), (False, 1), (0, True), [0, 1],
                 (0, "1"), (0, None), (0, (1,)), ([0],), {0: True}, 0, "0", (0, 1, 2, 4, 5)]
        for thing in wrong + list(ODD) + bent((0, 1, 4)):
            if thing != ():
                self.raised(BadDrops, thing, self.trail.forget, thing)


class TestPuts(Refusals):
    wrong_puts = [
        ((8, content(1)),), ((-1, content(1)),), ((MOST, content(1)),), ((True, content(1)),), (("0", content(1)),),
        ((None, content(1)),), (((0,), content(1)),), (([0], content(1)),), ((0, (1,) * 27),), ((0, (1,) * 29),),
        ((0, [1] * 28),), ((0, (True,) * 28),), ((0, (1,) * 27 + (-1,)),), ((0, (1,) * 27 + (MOST + 1,)),), ((0, None),),
        ((0,),), ((0, content(1), 2),), ([0, content(1)],), (content(1),), (0,), ((content(1), 0),), (None,), ((),),
        [(0, content(1))], {0: content(1)}, pairs(1, 0), pairs(0, 0), pairs(0, 2, 1), pairs(0, 1, 2, 3, 4),
        pairs(0, 1, 2, 3, 4, 5, 6, 7), pairs(0, 1) + (None,), pairs(0, 1) + (1,), "puts", 0, pairs(0) + pairs(0),
    ]
    wrong_drops = [(3,), (5,), (8,), (-1,), (1, 0), (2, 2), (0, 1, 3), [0], [], {}, {0: 1}, None, 0, "", "0", (True,),
                   (False,), (False, 1), (0, True), ("0",), ((0,),), ([0],), (None,), (0, 1, 2, 4, 5), (MOST,)]

    def test_wrong_puts(self):
        for thing in self.wrong_puts + list(ODD) + bent(pairs(0, 2)):
            if thing in ((), pairs(0), ((3, content(9)),), ((0, content(1)),)):
                continue
            for drops in ((), (1,), (3,), None, [1], thing):
                self.raised(BadPuts, thing, self.trail.put, thing, drops)

    def test_wrong_drops(self):
        for puts in ((), pairs(3), pairs(5, 6, 7), pairs(0, 1, 2, 3)):
            for thing in self.wrong_drops + list(ODD) + bent((0, 1, 4)):
                if thing != ():
                    self.raised(BadDrops, thing, self.trail.put, puts, thing)

    def test_drops_that_are_put(self):
        for puts, drops in (((0,), (0,)), ((0, 1), (1, 2)), ((0, 2, 4), (1, 4)), ((1, 2, 3), (1,)), ((4,), (0, 1, 2, 4))):
            self.raised(BadDrops, drops, self.trail.put, pairs(*puts), drops)

    def test_nothing_at_all(self):
        nothing = ()
        self.raised(BadDrops, nothing, self.trail.put, (), nothing)
        error = caught(self.trail.put, drops=nothing, puts=())
        self.assertIs(error.__class__, BadDrops)


class TestManyKeys(unittest.TestCase):
    """The bounds of one group: K - 1 puts, and 24 keys together."""

    def trail(self):
        trail = Trail(made(8, 24))
        for start in (0, 23, 46, 69):
            trail.put(pairs(*range(start, start + 23)), ())
        return trail

    def test_how_many_together(self):
        for puts, drops, fits in ((23, 0, True), (24, 0, None), (23, 1, True), (23, 2, False), (0, 24, True),
                                  (0, 25, False), (12, 12, True), (12, 13, False), (1, 23, True), (1, 24, False),
                                  (1, 90, False), (0, 92, False)):
            trail = self.trail()
            parts = pairs(*range(puts), word=9), tuple(range(92 - drops, 92))
            before = trail_state(trail), disk_state(trail.disk())
            error = caught(trail.put, *parts)
            if fits:
                self.assertIsNone(error)
                self.assertEqual(trail.living(), tuple(range(92 - drops)))
                self.assertEqual(trail_state(Trail(trail.disk())), trail_state(trail))
            else:
                self.assertIs(error.__class__, BadPuts if fits is None else BadDrops)
                self.assertIs(error.thing, parts[0 if fits is None else 1])
                self.assertEqual((trail_state(trail), disk_state(trail.disk())), before)

    def test_the_least_sizes(self):
        trail = Trail(made(6, 4))
        self.assertIs(caught(trail.put, pairs(0, 1, 2, 3), ()).__class__, BadPuts)
        self.assertIs(caught(trail.put, pairs(6), ()).__class__, BadPuts)
        self.assertIsNone(trail.put(pairs(3, 4, 5), ()))
        self.assertIsNone(trail.put(pairs(0, 1, 2), (3, 4, 5)))
        self.assertEqual(trail.living(), (0, 1, 2))

    def test_all_keys_of_the_greatest_sizes(self):
        trail = Trail(made(40, 24))
        self.assertIsNone(trail.put(pairs(0, 827), ()))
        self.assertIs(caught(trail.put, pairs(828), ()).__class__, BadPuts)
        self.assertEqual(trail.living(), (0, 827))
        self.assertEqual(trail.read(827), (827,) + (5,) * 27)


class TestSegments(unittest.TestCase):
    def setUp(self):
        """A trail with the closed segments 0 and 1, and 4 as well."""
        self.trail = Trail(made(8, 4))
        for keys in ((0, 1, 2), (3, 4, 5), (6, 7, 8)):
            self.trail.put(pairs(*keys), ())
        self.assertEqual(self.trail.states()[:4], ("closed", "closed", "current", "beyond"))
        self.before = trail_state(self.trail), blocks_of(self.trail.disk())

    def test_what_is_cleaned(self):
        wrong = [(2,), (3,), (4,), (7,), (8,), (-1,), (0, 2), (1, 0), (0, 0), (0, 1, 1), (0, 1, 4), (True,), (False,),
                 (False, True), (0, True), [0], [], {}, {0: 1}, None, 0, "", ("0",), ((0,),), ([0],), (None,), (0, MOST)]
        for thing in wrong + list(ODD) + bent((0, 1)):
            if thing != ():
                error = caught(self.trail.clean, thing)
                self.assertIs(error.__class__, BadSegments, thing)
                self.assertIs(error.thing, thing)
        self.assertEqual((trail_state(self.trail), blocks_of(self.trail.disk())), self.before)

    def test_policies(self):
        words = ("emptiest", "fullest", "oldest", "first")
        wrong = ["Emptiest", "empty", "first ", " first", "", "last", "newest", ["first"], ("first",), None, 0, words,
                 list(words), {}, {"first": 1}, True]
        for thing in wrong + list(ODD):
            for many in (0, 1, -1, None):
                error = caught(self.trail.chosen, thing, many)
                self.assertIs(error.__class__, BadPolicy)
                self.assertIs(error.thing, thing)
        for thing in ODD + (-1, -10 ** 39, "1", (1,), [1], True, False):
            for word in words:
                if not is_number(thing):
                    error = caught(self.trail.chosen, word, thing)
                    self.assertIs(error.__class__, BadNumber)
                    self.assertIs(error.thing, thing)
        self.assertEqual((trail_state(self.trail), blocks_of(self.trail.disk())), self.before)
        self.assertEqual(self.trail.chosen(policy="first", many=10 ** 40 - 1), (0, 1))


class TestArgumentsStay(unittest.TestCase):
    def test_lists_and_dicts(self):
        for call in ("read", "place_of", "free_keys", "forget", "clean"):
            thing = [0, [1], {"a": [2]}]
            self.assertIs(caught(getattr(Trail(made(6, 4)), call), thing).thing, thing)
            self.assertEqual(thing, [0, [1], {"a": [2]}])

    def test_a_disk_in_other_places(self):
        trail = Trail(made(6, 4))
        for other in (trail, trail.disk(), Disk(6, 4)):
            self.assertIs(caught(trail.put, other, ()).__class__, BadPuts)
            self.assertIs(caught(trail.put, pairs(0), other).__class__, BadDrops)


if __name__ == "__main__":
    unittest.main()
