"""Systems: formatting, mounting, the deeds that only concern the disk, and what surely stands [12.1, 12.3]."""

import itertools
import random
import unittest

from broken import PICTURE, RIGHT, WRONG, changed, disk_bearing
from keyed import inode, keyed_under
from paired import Pair, pair, state_of
from reader import Shape, Trailing, group_blocks
from support import STRANGE, blocks_of, caught, content, disk_state, file_of, names, pairs, watched
from test_is_deed import wrong_deeds
from trailkeep.disk import Disk
from trailkeep.errors import BadDeed, BadDisk, BadSize, Broken, NoRoot, PowerCut
from trailkeep.groups import judge_group
from trailkeep.meaning import meaning, road
from trailkeep.plain import Plain, from_picture
from trailkeep.roots import judge_root, made, newer_root
from trailkeep.system import System, formatted
from trailkeep.trail import Trail

EMPTY = (("folder", ()),)


class TestFormatted(unittest.TestCase):
    def test_sizes(self):
        for size in ((6, 12), (6, 24), (40, 12), (40, 24), (17, 13)):
            disk = formatted(*size)
            self.assertIs(disk.__class__, Disk)
            self.assertEqual(disk.sizes()[:2], size)
            self.assertEqual(disk.waiting(), ())
            expected = blocks_of(made(*size))
            start = Shape(*size).start
            expected[start:start + 2] = group_blocks(2, 0, 1, [(0, inode(2, 0, 1, ()))], [])
            self.assertEqual(list(disk.standing()), expected)
            self.assertEqual(judge_group(disk, 0, 0), ("group", 2, 0, 1, (0,), ()))
            self.assertEqual(meaning(disk), ((0, inode(2, 0, 1, ())),))
            self.assertEqual(road(disk), ((0, 0, 2),))
            self.assertEqual(disk_state(formatted(blocks=size[1], segments=size[0])), disk_state(disk))

    def test_each_call_makes_a_new_disk(self):
        one, other = formatted(6, 12), formatted(6, 12)
        self.assertNotEqual(one, other)
        self.assertEqual(disk_state(one), disk_state(other))
        System(one).do(("make", ("a",)))
        self.assertNotEqual(disk_state(one), disk_state(other))
        self.assertEqual(disk_state(formatted(6, 12)), disk_state(other))

    def test_it_has_no_fuse(self):
        disk = formatted(6, 12)
        for _ in range(50):
            disk.force()

    def test_wrong_sizes(self):
        wrong = [thing for thing in STRANGE if thing.__class__ is not int] + [-1, 0, 5, 41, 10 ** 40 - 1, True, False, "6", (6,)]
        for thing in wrong:
            for other in (12, 24, 4, 11, 25, None, True, "12"):
                error = caught(formatted, thing, other)
                self.assertIs(error.__class__, BadSize)
                self.assertIs(error.thing, thing)
        wrong = [thing for thing in wrong if thing != 41] + list(range(12)) + [25, 41]
        for thing, segments in itertools.product(wrong, (6, 40)):
            error = caught(formatted, segments, thing)
            self.assertIs(error.__class__, BadSize, thing)
            self.assertIs(error.thing, thing)
        self.assertEqual(caught(formatted, blocks=11, segments=5).thing, 5)
        self.assertEqual(caught(formatted, blocks=11, segments=6).thing, 11)


class TestMounting(unittest.TestCase):
    def mounted(self, disk, picture):
        """Mounts on a disk that must not be written to; compares, also with mounting twice."""
        before = disk_state(disk)
        disk.fuse(0)
        system = System(disk)
        other = System(disk=disk)
        self.assertEqual(disk_state(disk), before)
        self.assertIs(caught(disk.force).__class__, PowerCut)
        disk.fuse(10 ** 9)
        self.assertEqual(state_of(system), state_of(other))
        self.assertEqual(system.picture(), picture)
        plain = from_picture(disk.sizes()[2], picture)
        self.assertEqual((system.needs(), system.handles()), (plain.needs(), ()))
        self.assertEqual((system.room(), system.done(), system.standing()), (disk.sizes()[2], 0, 0))
        self.assertEqual(len(system.living()), system.needs())
        return system

    def test_formatted(self):
        for size in ((6, 12), (40, 24), (9, 15)):
            self.assertEqual(self.mounted(formatted(*size), EMPTY).living(), (0,))

    def test_keys_in_any_order(self):
        system = self.mounted(disk_bearing(RIGHT), PICTURE)
        self.assertEqual(system.living(), tuple(key for key, _ in RIGHT))
        system = self.mounted(disk_bearing(keyed_under(PICTURE, (0, 21, 20, 19, 18, 17, 16, 15, 14))), PICTURE)
        self.assertEqual(system.living(), (0,) + tuple(range(14, 22)))

    def test_keys_of_the_greatest_disk(self):
        keys = (0, 827, 826, 500, 3, 100, 99, 825, 1)
        self.assertEqual(self.mounted(disk_bearing(keyed_under(PICTURE, keys), (40, 24)), PICTURE).living(), tuple(sorted(keys)))

    def test_with_keys_beside(self):
        disk = disk_bearing(changed(RIGHT, k6=content(5), k10=inode(1, 0, 1, ())))
        self.assertEqual(self.mounted(disk, PICTURE).living(), tuple(key for key, _ in RIGHT))

    def test_behind_another_system(self):
        disk = formatted(7, 13)
        system = System(disk)
        for deed in file_of(("a",), 60) + [("folder", ("d",)), ("link", ("a",), ("d", "b")), ("open", ("a",))]:
            system.do(deed)
        living, picture = system.living(), system.picture()
        self.assertEqual(System(disk).picture(), picture)
        system.do(("force",))
        self.assertEqual(self.mounted(disk, picture).living(), living)
        system = System(disk)
        system.do(("write", ("a",), 0, (9,)))
        disk.cut(())
        self.mounted(disk, picture)

    def test_no_disk(self):
        for thing in STRANGE + (System(formatted(6, 12)), Trail(formatted(6, 12)), Plain(3), formatted):
            if not isinstance(thing, Disk):
                error = caught(System, thing)
                self.assertIs(error.__class__, BadDisk)
                self.assertIs(error.thing, thing)

    def test_no_root(self):
        disk = Disk(6, 12)
        self.assertIs(caught(System, disk).__class__, NoRoot)
        disk = formatted(6, 12)
        disk.write(0, (0,) * 32)
        before = disk_state(disk)
        self.assertIs(caught(System, disk).__class__, NoRoot)
        self.assertEqual(disk_state(disk), before)

    def test_no_tree(self):
        error = caught(System, made(6, 12))
        self.assertIs(error.__class__, Broken)
        self.assertEqual(error.kind, "inode")
        for kind, _, blocks in WRONG:
            disk = disk_bearing(blocks)
            before = disk_state(disk)
            error = caught(System, disk)
            self.assertIs(error.__class__, Broken)
            self.assertEqual(error.kind, kind)
            self.assertEqual(disk_state(disk), before)

    def test_equal_only_to_itself(self):
        disk = formatted(6, 12)
        one, other = System(disk), System(disk)
        self.assertEqual(one, one)
        self.assertNotEqual(one, other)
        self.assertNotEqual(one, disk)


class TestWrongDeeds(unittest.TestCase):
    def test_they_change_nothing(self):
        disk = watched(formatted(6, 12))
        system = System(disk)
        for deed in file_of(("a",), 3) + [("force",), ("open", ("a",)), ("remove", ("a",)), ("make", ("b",))]:
            system.do(deed)
        disk.told()
        before = state_of(system), disk_state(disk)
        for thing in wrong_deeds():
            error = caught(system.do, thing)
            self.assertIs(error.__class__, BadDeed)
            self.assertIs(error.thing, thing)
        self.assertEqual((state_of(system), disk_state(disk)), before)
        self.assertEqual(disk.told(), [])
        self.assertEqual(system.do(deed=("hread", 0, 0, 9)), ("done", (0, 1, 2)))

    def test_lists_stay(self):
        thing = ["write", [("a",)], {"at": [0]}]
        system = System(formatted(6, 12))
        self.assertIs(caught(system.do, thing).__class__, BadDeed)
        self.assertEqual(thing, ["write", [("a",)], {"at": [0]}])


class TestForceAndRoot(unittest.TestCase):
    def test_force(self):
        both = pair(self)
        both.do(("make", ("a",)))
        self.assertEqual(both.do(("force",)), (("done", None), ["force"]))
        self.assertEqual(both.disk.waiting(), ())
        self.assertEqual(both.do(("force",)), (("done", None), ["force"]))

    def test_root(self):
        both = pair(self)
        both.do(("make", ("a",)))
        answer, noted = both.do(("root",))
        self.assertEqual((answer, len(noted), noted[0], noted[-1]), (("done", None), 3, "force", "force"))
        self.assertEqual(newer_root(both.disk), 1)
        self.assertEqual(judge_root(both.disk, 1)[1:6], (4, 0, 6, 1, 3))
        self.assertEqual([place is not None for place in judge_root(both.disk, 1)[6]], [True] * 3 + [False] * 19)
        both.do(("root",))
        self.assertEqual([newer_root(both.disk), judge_root(both.disk, 0)[1]], [0, 5])
        self.assertEqual(road(both.disk), ())


class TestClean(unittest.TestCase):
    def wasted(self, segments=8, many=3):
        """A system with so many closed segments, in each of which something lives."""
        both = pair(self, segments, 12)
        at = 0
        while len(both.closed()) < many:
            name = names(12)[at]
            for deed in file_of((name,), 84):
                both.do(deed)
            at += 1
        return both

    def uses(self, both):
        return both.trail.told()[5]

    def test_each_segment_alone(self):
        both = self.wasted()
        self.assertEqual(both.closed(), (0, 1, 2))
        picture = both.system.picture()
        answer, noted = both.do(("clean", (2, 0)))
        self.assertEqual(answer, ("done", None))
        # First what lived in segment 2, and then what lived in segment 0, each in groups of its own.
        groups = [block for _, block in noted if block[1] == 1]
        self.assertEqual(len(groups), 2)
        self.assertEqual(self.uses(both)[2::-2], (0, 0))
        self.assertGreater(self.uses(both)[1], 0)
        self.assertEqual(both.system.picture(), picture)

    def test_any_order_repeats_and_others(self):
        for segments in ((), (0,), (1, 0), (0, 0, 0), (7,), (8, 9, 39), (39, 2, 39, 2), (3, 4, 5, 6, 7), tuple(range(40)),
                         tuple(range(39, -1, -1)), (2,) * 40):
            both = self.wasted()
            expected = [0 if at in segments and at in (0, 1, 2) else use for at, use in enumerate(self.uses(both))]
            answer, noted = both.do(("clean", segments))
            self.assertEqual(answer, ("done", None))
            self.assertEqual(list(self.uses(both)[:3]), expected[:3])
            self.assertEqual(noted == [], not set(segments) & {0, 1, 2})
            # A second time there is nothing left to move.
            self.assertEqual(both.do(("clean", tuple(at for at in segments if at < 3)))[1], [])

    def test_current_and_beyond_are_not_cleaned(self):
        both = self.wasted()
        for state in ("current", "beyond", "free"):
            for segment in both.trail.having(state):
                self.assertEqual(both.do(("clean", (segment,))), (("done", None), []))

    def test_a_segment_that_becomes_closed_on_the_way(self):
        """What is moved does not fit into the current segment, which is then closed and cleaned, too."""
        both = self.wasted(10)
        for at in range(9):
            if both.trail.now().head[1] < 10:
                both.do(("write", ("a",), 0, (at + 7,)))
        current, beyond = both.trail.now().head[0], both.trail.now().beyond
        fullest = max(both.closed(), key=lambda segment: self.uses(both)[segment])
        self.assertGreater(self.uses(both)[fullest], 1)
        self.assertGreater(self.uses(both)[current], 0)
        both.do(("clean", (current, fullest, current)))
        self.assertEqual(both.trail.now().head[0], beyond)
        self.assertEqual(self.uses(both)[current], 0)

    def test_not_all_are_done_for_want_of_free_segments(self):
        seen = 0
        for seed in range(10):
            draw = random.Random(seed)
            both = pair(self, draw.choice((6, 7)), 12)
            for name in "abc":
                for deed in file_of((name,), 112):
                    both.do(deed)
            for at in range(40):
                both.do(("write", (draw.choice("abc"),), draw.randrange(4) * 28, (at + 1,)))
                if draw.random() < 0.3:
                    uses, closed = self.uses(both), both.closed()
                    _, noted = both.do(("clean", closed))
                    left = [at for at in closed if uses[at] and self.uses(both)[at]]
                    seen += bool(left) and bool(noted)
        self.assertGreater(seen, 5)

    def test_nothing_changes_for_the_tree(self):
        both = self.wasted()
        both.do(("open", ("a",)))
        both.do(("remove", ("a",)))
        before = state_of(both.system)[:5], meaning(both.disk)
        both.do(("clean", (0, 1, 2)))
        self.assertEqual((state_of(both.system)[:5], meaning(both.disk)), before)
        self.assertEqual(both.do(("hread", 0, 0, 9))[0], ("done", tuple(range(9))))


class TestStanding(unittest.TestCase):
    def told(self, system):
        return system.done(), system.standing()

    def test_behind_each_deed(self):
        system = System(formatted(6, 12))
        self.assertEqual(self.told(system), (0, 0))
        for deed, told in ((("make", ("a",)), (1, 0)), (("force",), (2, 2)), (("write", ("a",), 0, (1,)), (3, 2)),
                           (("make", ("a",)), (4, 2)), (("remove", ("x",)), (5, 2)), (("list", ()), (6, 2)),
                           (("clean", (0, 1)), (7, 2)), (("root",), (8, 8)), (("root",), (9, 9)), (("open", ("a",)), (10, 9)),
                           (("close", 5), (11, 9)), (("force",), (12, 12)), (("force",), (13, 13))):
            system.do(deed)
            self.assertEqual(self.told(system), told, deed)

    def test_refused_deeds_may_stand(self):
        system = System(formatted(6, 12))
        system.do(("remove", ("x",)))
        self.assertEqual(self.told(system), (1, 0))
        system.do(("force",))
        self.assertEqual(self.told(system), (2, 2))

    def test_wrong_deeds_do_not_count(self):
        system = System(formatted(6, 12))
        system.do(("force",))
        for thing in (("force", 0), None, ["force"], ("forced",), ()):
            self.assertIs(caught(system.do, thing).__class__, BadDeed)
            self.assertEqual(self.told(system), (1, 1))

    def test_the_power_fails_amid_force_and_root(self):
        for word, calls in (("force", 1), ("root", 3)):
            for fuse in range(calls):
                disk = formatted(6, 12)
                system = System(disk)
                for deed in (("force",), ("make", ("a",)), ("make", ("b",))):
                    system.do(deed)
                disk.fuse(fuse)
                self.assertIs(caught(system.do, (word,)).__class__, PowerCut)
                self.assertEqual(system.standing(), 1)
                self.assertEqual(system.done(), 3)
                disk.cut(())
                self.assertEqual(System(disk).picture() == EMPTY, fuse == 0)
            disk.fuse(calls)
            system = System(disk)
            system.do((word,))
            self.assertEqual(self.told(system), (1, 1))

    def test_the_power_fails_amid_other_deeds(self):
        disk = formatted(6, 12)
        system = System(disk)
        system.do(("make", ("a",)))
        system.do(("root",))
        disk.fuse(2)
        self.assertIs(caught(system.do, ("make", ("b",))).__class__, PowerCut)
        self.assertEqual(self.told(system), (2, 2))

    def test_packing_alone_makes_nothing_stand(self):
        """Roots that a deed writes to find room are no deeds."""
        both = pair(self)
        both.do(("make", ("a",)))
        packed = False
        for at in range(60):
            _, noted = both.do(("write", ("a",), 0, (at,) * 56))
            packed = packed or "force" in noted
            self.assertEqual(both.system.standing(), 0)
        self.assertTrue(packed)

    def test_behind_mounting(self):
        disk = formatted(6, 12)
        system = System(disk)
        for deed in (("make", ("a",)), ("force",), ("make", ("b",))):
            system.do(deed)
        disk.cut(())
        self.assertEqual(self.told(System(disk)), (0, 0))


class TestHandles(unittest.TestCase):
    def test_no_handle_is_open_behind_mounting(self):
        both = pair(self)
        for deed in file_of(("a",), 3) + [("open", ("a",)), ("open", ("a",)), ("force",)]:
            both.do(deed)
        self.assertEqual(both.system.handles(), (0, 1))
        both.cut(())
        self.assertEqual(both.system.handles(), ())
        self.assertEqual(both.do(("hread", 0, 0, 9))[0], ("refused", "no handle"))
        self.assertEqual(both.do(("open", ("a",)))[0], ("done", 0))

    def test_functions_asked_twice(self):
        both = Pair(self, disk_bearing(RIGHT))
        both.do(("open", ("b",)))
        system = both.system
        for call in (system.picture, system.needs, system.handles, system.room, system.living, system.done, system.standing):
            self.assertEqual(call(), call())
            self.assertIn(call().__class__, (tuple, int))
        self.assertEqual(system.do(("stat", ("b",))), ("done", ("file", 30, 2)))
        self.assertEqual(system.do(("stat", ("b",))), ("done", ("file", 30, 2)))


class TestTrailBelow(unittest.TestCase):
    def test_a_trail_and_a_system(self):
        """What a system writes can be gone on with by a trail, and the other way round."""
        disk = formatted(6, 12)
        trail = Trail(disk)
        trail.put(((0, inode(2, 1, 1, (5,))), (3, inode(1, 0, 1, ())), (5, (1,) + (0,) * 7 + (3,) + (0,) * 19)), ())
        system = System(disk)
        self.assertEqual(system.picture(), (("folder", (("a", 1),)), ("file", ())))
        system.do(("write", ("a",), 0, (7,)))
        self.assertEqual(system.living(), (0, 1, 3, 5))
        trail = Trail(disk)
        self.assertEqual(trail.living(), (0, 1, 3, 5))
        trail.put(pairs(9), ())
        self.assertEqual(System(disk).living(), (0, 1, 3, 5))

    def test_the_reader_agrees(self):
        shape = Shape(6, 12)
        disk = formatted(6, 12)
        told = Trailing(6, 12, blocks_of(disk)).told()
        self.assertEqual(told[:5], ((0,), (0, 2), 1, 2, 3))
        self.assertEqual(shape.keys, System(disk).room())


if __name__ == "__main__":
    unittest.main()
