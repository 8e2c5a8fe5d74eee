"""Writers, their scripts and weavings [14.1, 14.2]."""

import random
import unittest

from model import Model
from paired import state_of
from support import STRANGE, bent, caught, disk_state, file_of, watched
from support import state_of as plain_state_of
from test_is_deed import DEEDS, wrong_deeds
from test_model import Drawn
from trailkeep.errors import BadScripts, BadSystem, BadWeaving, PowerCut
from trailkeep.plain import Plain, from_picture
from trailkeep.system import System, formatted
from trailkeep.trail import Trail
from trailkeep.writers import are_scripts, is_weaving, woven

MAKE_A = ("make", ("a",))
OPEN_A = ("open", ("a",))
NO_HANDLE = ("refused", "no handle")
DONE = ("done", None)


def woven_on_model(model, scripts, weaving):
    """Tells the answers a second time, on a model of a plain tree and without any cleaning."""
    coming = [list(script) for script in scripts]
    handles = [[] for _ in scripts]
    answers = [[] for _ in scripts]
    for who in weaving:
        if not 0 <= who < len(scripts) or not coming[who]:
            continue
        deed = coming[who].pop(0)
        if deed[0] in ("close", "hwrite", "hcut", "hread", "hstat"):
            if deed[1] not in range(len(handles[who])) or handles[who][deed[1]] == "closed":
                answers[who].append(NO_HANDLE)
                continue
            answer = model.do((deed[0], handles[who][deed[1]]) + deed[2:])
            if deed[0] == "close":
                handles[who][deed[1]] = "closed"
        else:
            answer = model.do(deed)
            if deed[0] == "open" and answer[0] == "done":
                handles[who].append(answer[1])
        answers[who].append(answer)
    return tuple(tuple(told) for told in answers)


class TestWoven(unittest.TestCase):
    def check(self, scripts, weaving, size=(6, 12), first=()):
        """The answers and the picture on a system, on a plain tree and on a model are the same."""
        system = System(formatted(*size))
        for deed in first:
            system.do(deed)
        plain, model = from_picture(system.room(), system.picture()), Model(system.room())
        for deed in first:
            model.do(deed)
        told = woven(system, scripts, weaving)
        self.assertEqual(woven(plain, scripts, weaving), told)
        self.assertEqual(woven_on_model(model, scripts, weaving), told)
        self.assertEqual((system.picture(), system.needs(), system.handles()), plain_state_of(plain))
        self.assertEqual(plain_state_of(plain), plain_state_of(model))
        self.assertEqual(len(told), len(scripts))
        return told, system

    def test_the_order(self):
        scripts = ((MAKE_A, ("write", ("a",), 0, (1,)), ("write", ("a",), 0, (3,))), (("write", ("a",), 0, (2,)),))
        for weaving, word in (((0, 0, 0, 1), 2), ((0, 0, 1, 0), 3), ((0, 1, 0), 1), ((1, 0), None), ((0, 0, 0, 0, 1), 2)):
            told, system = self.check(scripts, weaving)
            answer = system.do(("read", ("a",), 0, 9))
            self.assertEqual(answer, ("done", () if word is None else (word,)))
        self.assertEqual(woven(Plain(9), scripts, (1, 0))[1], (("refused", "no path"),))

    def test_by_name(self):
        self.assertEqual(woven(weaving=(0,), scripts=((MAKE_A,),), system=Plain(9)), ((DONE,),))

    def test_nothing_to_do(self):
        """Writers that there are not, scripts at their ends, and empty ones."""
        for scripts, weaving, expected in (
                (((),), (), ((),)), (((),), (0, 0, 1, 2, 3, -1), ((),)), (((), (MAKE_A,), ()), (0, 2, 3), ((), (), ())),
                (((MAKE_A,),), (1, 2, 3), ((),)), (((MAKE_A,),), (0, 0, 0), ((DONE,),)), (((MAKE_A,),), (), ((),)),
                (((MAKE_A,), ()), (1, 1, 0, 1), ((DONE,), ())), (((),) * 4, (0, 1, 2, 3) * 9, ((),) * 4),
                (((), (), (), (MAKE_A,)), (3,), ((), (), (), (DONE,)))):
            told, system = self.check(scripts, weaving)
            self.assertEqual(told, expected)
            self.assertEqual(system.done(), sum(len(answers) for answers in told) + sum(who < 0 for who in weaving))

    def test_cleaning(self):
        disk = watched(formatted(8, 12))
        system = System(disk)
        for deed in file_of(("a",), 84) + file_of(("b",), 84):
            system.do(deed)
        before = system.done()
        self.assertGreater(Trail(disk).states().count("closed"), 0)
        self.assertGreater(Trail(disk).uses()[0], 0)
        disk.told()
        self.assertEqual(woven(system, ((),), (-1,)), ((),))
        self.assertNotEqual(disk.told(), [])
        self.assertEqual(Trail(disk).uses()[0], 0)
        self.assertEqual(system.done(), before + 1)
        # The last segment that a weaving may name is 39, which this disk does not have.
        self.assertEqual(woven(system, ((),), (-40, -9)), ((),))
        self.assertEqual((disk.told(), system.done()), ([], before + 3))

    def test_which_segment_is_cleaned(self):
        for segment in range(3):
            disk = formatted(9, 12)
            system = System(disk)
            for deed in file_of(("a",), 140) + file_of(("b",), 140) + file_of(("c",), 140):
                system.do(deed)
            self.assertEqual(Trail(disk).states()[:3], ("closed",) * 3)
            uses = Trail(disk).uses()
            self.assertGreater(min(uses[:3]), 0)
            woven(system, ((),), (-1 - segment,))
            after = Trail(disk).uses()
            self.assertEqual([at for at in range(3) if after[at] != uses[at]], [segment])

    def test_a_plain_tree_is_cleaned_in_vain(self):
        plain = Plain(9)
        self.assertEqual(woven(plain, ((MAKE_A,),), (-1, 0, -40)), ((DONE,),))
        self.assertEqual(plain.needs(), 3)


class TestHandles(unittest.TestCase):
    def answers(self, scripts, weaving):
        system = System(formatted(6, 12))
        told = woven(system, scripts, weaving)
        self.assertEqual(woven(Plain(22), scripts, weaving), told)
        return told, system

    def test_each_writer_counts_its_own(self):
        first = (MAKE_A, OPEN_A, ("hwrite", 0, 0, (5,)), ("close", 0), ("hstat", 0))
        second = (("make", ("b",)), ("open", ("b",)), OPEN_A, ("hwrite", 0, 0, (6, 6)), ("hread", 1, 0, 9), ("hread", 0, 0, 9))
        told, system = self.answers((first, second), (0, 0, 1, 1, 1, 0, 1, 1, 1, 0, 0))
        self.assertEqual(told[0], (DONE, ("done", 0), ("done", 1), DONE, NO_HANDLE))
        # The handles of the second writer are 1 and 2, which it counts as 0 and 1.
        self.assertEqual(told[1], (DONE, ("done", 1), ("done", 2), ("done", 2), ("done", (5,)), ("done", (6, 6))))
        self.assertEqual(system.handles(), (1, 2))

    def test_of_another_writer(self):
        """A handle that only another writer has opened is none."""
        told, system = self.answers(((MAKE_A, OPEN_A), (("hread", 0, 0, 9), ("close", 0), OPEN_A, ("hread", 0, 0, 9))),
                                    (0, 0, 1, 1, 1, 1))
        self.assertEqual(told[1], (NO_HANDLE, NO_HANDLE, ("done", 1), ("done", ())))
        self.assertEqual((system.handles(), system.done()), ((0, 1), 4))

    def test_closed_ones_stay_closed(self):
        """The number that the system gives again is another handle for the writer."""
        script = (MAKE_A, OPEN_A, ("close", 0), OPEN_A, ("hstat", 0), ("close", 0), ("hstat", 1), ("hstat", 2), ("close", 1))
        told, system = self.answers((script,), (0,) * 9)
        stat = ("done", ("file", 0, 1))
        self.assertEqual(told[0], (DONE, ("done", 0), DONE, ("done", 0), NO_HANDLE, NO_HANDLE, stat, NO_HANDLE, DONE))
        self.assertEqual((system.handles(), system.done()), ((), 6))

    def test_a_closed_handle_that_another_writer_has_now(self):
        told, _ = self.answers(((MAKE_A, OPEN_A, ("close", 0), ("hwrite", 0, 0, (9,))), (OPEN_A, ("hread", 0, 0, 9))),
                               (0, 0, 0, 1, 0, 1))
        self.assertEqual(told, ((DONE, ("done", 0), DONE, NO_HANDLE), (("done", 0), ("done", ()))))

    def test_refused_opens_do_not_count(self):
        told, _ = self.answers(((OPEN_A, MAKE_A, ("open", ()), OPEN_A, ("hstat", 0), ("hstat", 1)),), (0,) * 6)
        self.assertEqual(told[0][:4], (("refused", "no path"), DONE, ("refused", "no file"), ("done", 0)))
        self.assertEqual(told[0][4:], (("done", ("file", 0, 1)), NO_HANDLE))

    def test_more_than_eight_by_and_by(self):
        """The numbers go on behind closed ones, so that a writer cannot name more than its first eight handles."""
        script = (MAKE_A,) + sum(((OPEN_A, ("close", at)) for at in range(7)), ()) + (OPEN_A, OPEN_A, ("hstat", 7), ("close", 7))
        told, system = self.answers((script,), (0,) * len(script))
        self.assertEqual(told[0][-4:], (("done", 0), ("done", 1), ("done", ("file", 0, 1)), DONE))
        self.assertEqual(system.handles(), (1,))

    def test_eight_are_open_at_most(self):
        scripts = ((MAKE_A,) + (OPEN_A,) * 5, (OPEN_A,) * 5 + (("hstat", 3), ("hstat", 2)))
        told, _ = self.answers(scripts, (0,) * 6 + (1,) * 7)
        self.assertEqual(told[1], (("done", 5), ("done", 6), ("done", 7), ("refused", "handles"), ("refused", "handles"), NO_HANDLE,
                                   ("done", ("file", 0, 1))))

    def test_refused_so_the_system_is_not_asked(self):
        for deed in (("close", 0), ("hwrite", 1, 0, (5,)), ("hcut", 7, 0), ("hread", 3, 0, 9), ("hstat", 0)):
            told, system = self.answers(((deed, deed),), (0, 0))
            self.assertEqual((told, system.done()), (((NO_HANDLE, NO_HANDLE),), 0))

    def test_one_removes_what_others_hold(self):
        scripts = ((MAKE_A, OPEN_A, ("hwrite", 0, 0, (1,) * 30), ("hstat", 0), ("hread", 0, 28, 9), ("close", 0)),
                   (OPEN_A, ("remove", ("a",)), ("hwrite", 0, 30, (2,)), ("close", 0)),
                   (("stat", ("a",)), MAKE_A, ("stat", ("a",))))
        told, system = self.answers(scripts, (0, 0, 0, 2, 1, 1, -1, 0, 2, 2, 1, -2, 0, 1, 0))
        self.assertEqual(told[0][3:], (("done", ("file", 30, 0)), ("done", (1, 1, 2)), DONE))
        self.assertEqual(told[2], (("done", ("file", 30, 1)), DONE, ("done", ("file", 0, 1))))
        self.assertEqual((system.needs(), system.handles()), (3, ()))


class TestDrawn(unittest.TestCase):
    def scripts(self, draw, seed):
        drawn = Drawn(seed, draw.choice(("ab", "abcdefgh")), draw.choice((1, 2)), (0, 1, 2, 28, 29, 56))
        return tuple(tuple(drawn.deed() for _ in range(draw.choice((0, 5, 40, 40)))) for _ in range(draw.randint(1, 4)))

    def test_whatever_is_cleaned(self):
        kinds = set()
        for seed in range(120):
            draw = random.Random(seed)
            scripts = self.scripts(draw, seed)
            first = () if seed % 2 else tuple(file_of(("a",), 140))
            size = draw.choice(((6, 12), (7, 12), (6, 24)))
            weaving = tuple(draw.choice((0, 0, 1, 1, 2, 3, draw.randint(-8, -1))) for _ in range(draw.choice((20, 200))))
            told, _ = TestWoven.check(self, scripts, weaving, size, first)
            # Without cleaning, and with other cleaning, the answers are the same.
            for other in (tuple(who for who in weaving if who >= 0),
                          tuple(who for part in weaving for who in ((part, draw.randint(-40, -1)) if part >= 0 else ()))):
                self.assertEqual(TestWoven.check(self, scripts, other, size, first)[0], told)
            for answers, script in zip(told, scripts):
                kinds |= {(deed[0], answer[0]) for deed, answer in zip(script, answers)}
        for word in ("make", "write", "open", "close", "hwrite", "hcut", "hread", "hstat", "rename", "link", "remove"):
            self.assertLessEqual({(word, "done"), (word, "refused")}, kinds)

    def test_what_is_passed_stays(self):
        scripts, weaving = self.scripts(random.Random(3), 3), (0, 1, -1, 2)
        before = repr((scripts, weaving))
        self.assertEqual(woven(Plain(50), scripts, weaving), woven(Plain(50), scripts, weaving))
        self.assertEqual(repr((scripts, weaving)), before)

    def test_the_power_fails(self):
        disk = formatted(6, 12)
        system = System(disk)
        disk.fuse(4)
        self.assertIs(caught(woven, system, ((MAKE_A, ("make", ("b",))),), (0, 0)).__class__, PowerCut)
        disk.cut((32,) * 9)
        self.assertEqual(System(disk).picture(), (("folder", (("a", 1),)), ("file", ())))


class TestKinds(unittest.TestCase):
    def test_right_scripts(self):
        for thing in (((),), ((), ()), ((),) * 4, (tuple(DEEDS),), (tuple(DEEDS), (), tuple(DEEDS[:5]), (("force",),)),
                      ((("force",),) * 50,)):
            self.assertIs(are_scripts(thing), True)
            self.assertIs(are_scripts(thing=thing), True)

    def wrong_scripts(self):
        right = ((MAKE_A, ("hwrite", 0, 0, (5,))), (), (("force",),))
        wrong = [(), ((),) * 5, [()], ([],), ((), []), [], {}, None, 0, "", ("",), ("force",), (("force",),), MAKE_A, (MAKE_A,),
                 ({},), (None,), (((),),), (((MAKE_A,),),), list(right)]
        wrong += [thing for thing in bent(right) + list(STRANGE) if thing != ((),)]
        wrong += [((deed,),) for deed in wrong_deeds()]
        return wrong

    def test_wrong_scripts(self):
        for thing in self.wrong_scripts():
            self.assertIs(are_scripts(thing), False, thing)

    def test_weavings(self):
        for thing in ((), (0,), (3, -40, 0, -1), tuple(range(-40, 4)), (1,) * 201):
            self.assertIs(is_weaving(thing), True)
            self.assertIs(is_weaving(thing=thing), True)
        for thing in self.wrong_weavings():
            self.assertIs(is_weaving(thing), False, thing)

    def wrong_weavings(self):
        wrong = [(4,), (-41,), (0, 10 ** 9), (True,), (0, False), (None,), ("0",), ((0,),), ([0],), [0], [], {}, {0: 1}, None,
                 0, ""]
        return wrong + [thing for thing in bent((0, 1, -2)) + list(STRANGE) if thing not in ((), (0,) * 3000)]

    def test_errors_in_their_order(self):
        disk = watched(formatted(6, 12))
        system = System(disk)
        system.do(MAKE_A)
        disk.told()
        plain = Plain(22)
        before = state_of(system), disk_state(disk), plain_state_of(plain)
        scripts, weaving = ((("make", ("b",)),),), (0, -1)
        for thing in STRANGE + (disk, Trail(disk), System, Plain, None, "system", formatted(6, 12)):
            if not isinstance(thing, (System, Plain)):
                for parts in ((scripts, weaving), (None, None), (thing, thing), (scripts, None)):
                    error = caught(woven, thing, *parts)
                    self.assertIs(error.__class__, BadSystem)
                    self.assertIs(error.thing, thing)
        for tree in (system, plain):
            for thing in self.wrong_scripts():
                for other in (weaving, None):
                    error = caught(woven, tree, thing, other)
                    self.assertIs(error.__class__, BadScripts)
                    self.assertIs(error.thing, thing)
            for thing in self.wrong_weavings():
                error = caught(woven, tree, scripts, thing)
                self.assertIs(error.__class__, BadWeaving)
                self.assertIs(error.thing, thing)
        self.assertEqual((state_of(system), disk_state(disk), plain_state_of(plain)), before)
        self.assertEqual(disk.told(), [])

    def test_lists_stay(self):
        thing = [[MAKE_A], {"a": [0]}]
        caught(woven, Plain(5), thing, [thing])
        self.assertEqual((are_scripts(thing), is_weaving(thing)), (False, False))
        self.assertEqual(thing, [[MAKE_A], {"a": [0]}])


if __name__ == "__main__":
    unittest.main()
