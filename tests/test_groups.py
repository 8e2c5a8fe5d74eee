"""Keys, contents, data blocks and groups [3.1 to 3.3]."""

import itertools
import random
import unittest

from reader import Shape, data, group_blocks, judged_group, summary
from support import STRANGE, bent, blocks_of, caught, disk_state, pairs
from trailkeep.disk import Disk, place_at
from trailkeep.errors import BadContent, BadDisk, BadKey, BadNumber, BadOffset, BadSegment
from trailkeep.groups import data_block, judge_group

MOST = 10 ** 9
RIGHT = tuple(range(28))


def is_number(thing, least, most):
    return type(thing) is int and least <= thing <= most


def lay(disk, segment, offset, blocks):
    """Writes blocks from the offset on; None leaves what is there."""
    for at, block in enumerate(blocks):
        if block is not None:
            disk.write(place_at(disk, segment, offset) + at, block)


def judged(blocks, offset=0, size=(6, 12), segment=1):
    disk = Disk(*size)
    lay(disk, segment, offset, blocks)
    return judge_group(disk, segment, offset)


def changed(block, at, word):
    return block[:at] + (word,) + block[at + 1:]


class TestDataBlock(unittest.TestCase):
    def test_the_words_in_their_order(self):
        for number, key in itertools.product((1, 7, MOST), (0, 5, 827)):
            for content in (RIGHT, (0,) * 28, (MOST,) * 28):
                self.assertEqual(data_block(number, key, content), (number, 2, key) + content + (number,))
        self.assertEqual(data_block(content=RIGHT, key=3, number=9), (9, 2, 3, *range(28), 9))

    def raised(self, made, thing, *parts):
        error = caught(data_block, *parts)
        self.assertIs(error.__class__, made, thing)
        self.assertIs(error.thing, thing)

    def test_wrong_numbers(self):
        for thing in STRANGE + (0, -1, MOST + 1, "1", (1,), [1]):
            if not is_number(thing, 1, MOST):
                for key, content in ((0, RIGHT), (-1, RIGHT), (None, None), (828, ())):
                    self.raised(BadNumber, thing, thing, key, content)

    def test_wrong_keys(self):
        for thing in STRANGE + (-1, 828, "0", (0,), [0], True, False):
            if not is_number(thing, 0, 827):
                for content in (RIGHT, None, ()):
                    self.raised(BadKey, thing, 1, thing, content)

    def test_wrong_contents(self):
        wrong = [thing for thing in STRANGE if thing != (9,) * 28] + bent(RIGHT)
        wrong += [(0,) * 27, (0,) * 29, (0,) * 32, (0,) * 27 + (-1,), (MOST + 1,) + (0,) * 27, (True,) * 28, [0] * 28]
        wrong += [(False,) + (0,) * 27, (None,) * 28, ((0,),) * 28, "0" * 28]
        for thing in wrong:
            self.raised(BadContent, thing, MOST, 827, thing)


class TestGroups(unittest.TestCase):
    def test_groups_that_are_there(self):
        for puts, drops in (((3,), ()), ((), (3,)), ((0, 21), (1, 2)), (tuple(range(11)), ()), ((), tuple(range(22))),
                            (tuple(range(11)), tuple(range(11, 22))), ((5, 7), (0, 21)), ((21,), (0,))):
            for number, ahead, beyond in ((1, 0, 0), (MOST, MOST, 5), (7, 9, 1), (2, 2, 3)):
                blocks = group_blocks(number, ahead, beyond, pairs(*puts), drops)
                for offset in range(12 - len(puts)):
                    found = judged(blocks, offset)
                    self.assertEqual(found, ("group", number, ahead, beyond, puts, drops))
                    self.assertIs(found[4].__class__, tuple)
                    self.assertIs(found[5].__class__, tuple)

    def test_waiting_standing_and_twice(self):
        disk = Disk(6, 4)
        lay(disk, 2, 1, group_blocks(7, 5, 1, pairs(3, 4), (0,)))
        for _ in range(3):
            before = disk_state(disk)
            self.assertEqual(judge_group(disk=disk, segment=2, offset=1), ("group", 7, 5, 1, (3, 4), (0,)))
            self.assertEqual(disk_state(disk), before)
            disk.force()

    def test_a_group_that_fills_its_segment(self):
        for segments, blocks in ((6, 4), (40, 24), (9, 7)):
            puts = tuple(range(blocks - 1))
            whole = group_blocks(3, 2, segments - 1, pairs(*puts), ())
            self.assertEqual(judged(whole, 0, (segments, blocks), segments - 1), ("group", 3, 2, segments - 1, puts, ()))
            for offset in range(1, blocks):
                last = whole[:blocks - offset]
                self.assertEqual(judged(last, offset, (segments, blocks)), ("form",))
            self.assertEqual(judged(whole[:-1], 0, (segments, blocks)), ("block", blocks - 2))

    def test_most_keys_together(self):
        self.assertEqual(judged(group_blocks(3, 2, 1, pairs(0), range(1, 24)), 0, (6, 24))[0], "group")
        self.assertEqual(judged(group_blocks(3, 2, 1, pairs(0), range(1, 25)), 0, (6, 24)), ("form",))
        self.assertEqual(judged(group_blocks(3, 2, 1, (), range(24)), 23, (6, 24))[0], "group")
        self.assertEqual(judged(group_blocks(3, 2, 1, (), range(25)), 23, (6, 24)), ("form",))
        puts = tuple(range(20, 43))
        self.assertEqual(judged(group_blocks(3, 2, 1, pairs(*puts), (45,)), 0, (6, 24)), ("group", 3, 2, 1, puts, (45,)))
        self.assertEqual(judged(group_blocks(3, 2, 1, pairs(*puts), (1, 2)), 0, (6, 24)), ("form",))
        self.assertEqual(judged(group_blocks(3, 2, 1, (), ()), 0, (6, 24)), ("form",))


class TestFaults(unittest.TestCase):
    def setUp(self):
        self.blocks = group_blocks(7, 5, 1, pairs(3, 9), (4, 21))

    def with_summary(self, at, word):
        return [changed(self.blocks[0], at, word)] + self.blocks[1:]

    def test_torn(self):
        self.assertEqual(judged([(0,) * 32]), ("torn",))
        for at, word in ((0, 0), (0, 8), (31, 0), (31, 6), (0, MOST)):
            self.assertEqual(judged(self.with_summary(at, word)), ("torn",))
        no_number = changed(changed(self.blocks[0], 0, 0), 31, 0)
        self.assertEqual(judged([no_number] + self.blocks[1:]), ("torn",))
        # What is torn is told before all else.
        self.assertEqual(judged([(7, 2) + (MOST,) * 29 + (8,)]), ("torn",))

    def test_kind(self):
        for word in (0, 2, 3, MOST):
            self.assertEqual(judged(self.with_summary(1, word)), ("kind",))
        self.assertEqual(judged(self.blocks[1:]), ("kind",))
        self.assertEqual(judged([(7, 2) + (MOST,) * 29 + (7,)]), ("kind",))

    def test_any_word_ahead(self):
        for word in (0, 7, 8, MOST):
            self.assertEqual(judged(self.with_summary(2, word)), ("group", 7, word, 1, (3, 9), (4, 21)))

    def test_beyond(self):
        for word in range(6):
            self.assertEqual(judged(self.with_summary(3, word)), ("group", 7, 5, word, (3, 9), (4, 21)))
        for word in (6, 7, MOST):
            self.assertEqual(judged(self.with_summary(3, word)), ("form",))

    def test_counts(self):
        for at in (4, 5):
            for word in (0, 1, 3, 4, 20, 24, 25, MOST):
                self.assertEqual(judged(self.with_summary(at, word)), ("form",))
        none = (7, 1, 5, 1) + (0,) * 27 + (7,)
        self.assertEqual(judged([none] + self.blocks[1:]), ("form",))
        # Zeros behind the keys are no keys.
        self.assertEqual(judged([changed(none, 5, 2)]), ("form",))
        self.assertEqual(judged([changed(none, 5, 1)]), ("group", 7, 5, 1, (), (0,)))

    def test_keys(self):
        for puts, drops in (((9, 3), ()), ((3, 3), ()), ((), (9, 3)), ((), (3, 3)), ((3, 9), (9,)), ((3, 9), (3,)),
                            ((22,), ()), ((), (22,)), ((0, MOST), ()), ((), (0, MOST)), ((0, 5, 4), ()),
                            ((), (5, 6, 1)), ((1, 2), (0, 2)), ((21, 22), (1,))):
            self.assertEqual(judged(group_blocks(7, 5, 1, pairs(*puts), drops)), ("form",))
        for puts, drops in (((21,), (20,)), ((20,), (21,)), ((9,), (3, 10))):
            self.assertEqual(judged(group_blocks(7, 5, 1, pairs(*puts), drops)), ("group", 7, 5, 1, puts, drops))

    def test_words_behind_the_keys(self):
        for at in range(10, 31):
            for word in (1, 22, MOST):
                self.assertEqual(judged(self.with_summary(at, word)), ("form",))
        full = group_blocks(7, 5, 1, (), range(22))
        self.assertEqual(judged(full)[0], "group")
        for at in range(28, 31):
            self.assertEqual(judged([changed(full[0], at, 1)]), ("form",))

    def test_it_has_to_fit(self):
        for offset in range(12):
            expected = ("group", 7, 5, 1, (3, 9), (4, 21)) if offset <= 9 else ("form",)
            disk = Disk(6, 12)
            lay(disk, 1, offset, self.blocks)
            self.assertEqual(judge_group(disk, 1, offset), expected)
        # Blocks of the next segment do not count.
        disk = Disk(6, 12)
        lay(disk, 0, 10, self.blocks)
        self.assertEqual(disk.read(place_at(disk, 1, 0)), self.blocks[2])
        self.assertEqual(judge_group(disk, 0, 10), ("form",))

    def test_data_blocks(self):
        for j in (0, 1):
            block = self.blocks[1 + j]
            for at, words in ((0, (0, 6, 8, MOST)), (1, (0, 1, 3)), (2, (0, 4, 10, 22)), (31, (0, 6, 8))):
                for word in words:
                    blocks = list(self.blocks)
                    blocks[1 + j] = changed(block, at, word)
                    self.assertEqual(judged(blocks), ("block", j), (j, at, word))
                    blocks[2] = (0,) * 32
                    self.assertEqual(judged(blocks), ("block", j))
            for at in range(3, 31):
                blocks = list(self.blocks)
                blocks[1 + j] = changed(block, at, MOST)
                self.assertEqual(judged(blocks)[0], "group")
        self.assertEqual(judged(self.blocks[:1] + self.blocks[:0:-1]), ("block", 0))
        self.assertEqual(judged(self.blocks[:1]), ("block", 0))
        self.assertEqual(judged(self.blocks[:2]), ("block", 1))

    def test_older_groups_behind(self):
        """What an older group left there is none of the newer one's blocks."""
        disk = Disk(6, 12)
        lay(disk, 1, 0, group_blocks(6, 4, 1, pairs(3, 9, 10), ()))
        disk.force()
        for many, expected in ((1, ("block", 0)), (2, ("block", 1)), (3, ("group", 7, 5, 1, (3, 9), (4, 21)))):
            other = disk.copied()
            lay(other, 1, 0, self.blocks[:many])
            self.assertEqual(judge_group(other, 1, 0), expected)
        lay(disk, 1, 0, self.blocks)
        self.assertEqual(judge_group(disk, 1, 3), ("kind",))
        self.assertEqual(judge_group(disk, 1, 4), ("torn",))


class TestTornByCuts(unittest.TestCase):
    def test_each_keep(self):
        blocks = group_blocks(7, 5, 1, pairs(3, 9), (4,))
        whole = ("group", 7, 5, 1, (3, 9), (4,))
        for older in (None, 6):
            for many in itertools.product((0, 1, 2, 3, 16, 31, 32), repeat=3):
                disk = Disk(6, 12)
                if older:
                    lay(disk, 1, 0, group_blocks(older, 4, 1, pairs(3, 9), (4,)))
                    disk.force()
                lay(disk, 1, 0, blocks)
                disk.cut(many)
                found = judge_group(disk, 1, 0)
                if many == (32, 32, 32):
                    self.assertEqual(found, whole)
                elif 0 < many[0] < 32 or many[0] == 0 and older is None:
                    self.assertEqual(found, ("torn",))
                elif many[0] == 32:
                    self.assertEqual(found, ("block", 0 if many[1] < 32 else 1))
                elif many == (0, 0, 0):
                    self.assertEqual(found, ("group", 6, 4, 1, (3, 9), (4,)))
                else:
                    self.assertEqual(found, ("block", 0 if many[1] else 1))


class TestRows(unittest.TestCase):
    def test_drawn_groups_with_drawn_faults(self):
        """Groups at drawn places of drawn disks, some of their words otherwise, beside a second judge."""
        results = {}
        for seed in range(3000):
            draw = random.Random(seed)
            size = draw.randrange(6, 41), draw.randrange(4, 25)
            shape, disk = Shape(*size), Disk(*size)
            segment, offset = draw.randrange(shape.segments), draw.randrange(shape.blocks)
            many = draw.randrange(min(shape.blocks - offset + 1, shape.keys, 24))
            keys = draw.sample(range(shape.keys), min(shape.keys, 24, many + draw.randrange(24)))
            puts, drops = sorted(keys[:many]), sorted(keys[many:])
            blocks = group_blocks(draw.randrange(1, 99), draw.randrange(9), draw.randrange(size[0]), pairs(*puts), drops)
            blocks = blocks[:shape.blocks - offset]
            for _ in range(draw.randrange(3)):
                at = draw.randrange(len(blocks)) if draw.random() < 0.3 else 0
                word = draw.choice((0, 1, 2, 3, draw.randrange(40), draw.randrange(830), blocks[at][0]))
                blocks[at] = changed(blocks[at], draw.choice((0, 1, 2, 3, 4, 5, 6, 31, draw.randrange(32))), word)
            lay(disk, segment, offset, blocks)
            if seed % 2:
                disk.force()
            found = judge_group(disk, segment, offset)
            self.assertEqual(found, judged_group(shape, blocks_of(disk), segment, offset), seed)
            results[found[0]] = results.get(found[0], 0) + 1
        self.assertGreater(min(results[word] for word in ("torn", "kind", "form", "block", "group")), 50)

    def test_the_second_builder_agrees(self):
        """The blocks of the tests are those of the document's words."""
        self.assertEqual(summary(7, 5, 1, (3,), (4,)), (7, 1, 5, 1, 1, 1, 3, 4) + (0,) * 23 + (7,))
        self.assertEqual(data(7, 3, RIGHT), data_block(7, 3, RIGHT))


class TestWrongArguments(unittest.TestCase):
    def test_the_first_wrong_one(self):
        disk = Disk(6, 4)
        lay(disk, 0, 0, group_blocks(7, 5, 1, pairs(3), ()))
        before = disk_state(disk)
        for thing in STRANGE + (disk.standing(), judge_group(disk, 0, 0)):
            if not isinstance(thing, Disk):
                for segment, offset in ((0, 0), (6, 0), (None, None)):
                    error = caught(judge_group, thing, segment, offset)
                    self.assertIs(error.__class__, BadDisk)
                    self.assertIs(error.thing, thing)
            if not is_number(thing, 0, 5):
                for offset in (0, 4, None, thing):
                    error = caught(judge_group, disk, thing, offset)
                    self.assertIs(error.__class__, BadSegment)
                    self.assertIs(error.thing, thing)
            if not is_number(thing, 0, 3):
                error = caught(judge_group, disk, 5, thing)
                self.assertIs(error.__class__, BadOffset)
                self.assertIs(error.thing, thing)
        self.assertIs(caught(judge_group, disk, 6, 0).__class__, BadSegment)
        self.assertIs(caught(judge_group, disk, 0, 4).__class__, BadOffset)
        self.assertEqual(disk_state(disk), before)


if __name__ == "__main__":
    unittest.main()
