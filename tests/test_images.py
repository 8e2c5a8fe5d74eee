"""Texts of disks [15.3]."""

import random
import unittest

from support import STRANGE, caught, content, disk_state, file_of
from trailkeep.disk import Disk
from trailkeep.errors import BadDisk, BadText
from trailkeep.images import disk_text, read_disk
from trailkeep.roots import made
from trailkeep.system import System, formatted

MOST = 10 ** 9
ONE = "1" + " 0" * 31
ONES = " ".join(["1"] * 32)


def lines_of(disk):
    """The lines of the text, told a second time."""
    found = ["disk {} {}".format(*disk.sizes()[:2])]
    for place, block in enumerate(disk.standing()):
        if any(block):
            found.append(" ".join(map(str, (place, *block))))
    return found


def drawn_disk(draw, size):
    disk = Disk(*size)
    for _ in range(draw.choice((0, 1, 5, 40, 200))):
        block = [0] * 32
        for _ in range(draw.choice((0, 1, 4, 32))):
            block[draw.randrange(32)] = draw.choice((0, 1, 9, 10, 99, 123456, MOST - 1, MOST))
        disk.write(draw.choice((0, disk.many() - 1, draw.randrange(disk.many()))), tuple(block))
        if draw.random() < 0.5:
            disk.force()
    return disk


class TestThereAndBack(unittest.TestCase):
    def check(self, disk):
        before = disk_state(disk)
        text = disk_text(disk)
        self.assertEqual(text, "\n".join(lines_of(disk)))
        self.assertEqual((disk_text(disk=disk), disk_text(disk)), (text, text))
        other = read_disk(text)
        self.assertEqual(disk_state(disk), before)
        self.assertIs(other.__class__, Disk)
        self.assertEqual((other.sizes(), other.standing(), other.waiting()), (disk.sizes(), disk.standing(), ()))
        self.assertEqual(disk_text(other), text)
        self.assertEqual(disk_state(read_disk(text=text)), disk_state(other))
        self.assertNotEqual(other, disk)
        for _ in range(60):
            other.force()

    def test_sizes(self):
        for size in ((6, 4), (6, 24), (40, 4), (40, 24), (10, 9), (23, 17)):
            self.assertEqual(disk_text(Disk(*size)), "disk {} {}".format(*size))
            self.check(Disk(*size))
            self.check(made(*size))
            disk = Disk(*size)
            for place in range(disk.many()):
                disk.write(place, (place,) * 31 + (MOST,))
            disk.force()
            self.check(disk)
            self.assertEqual(len(disk_text(disk).split("\n")), 1 + disk.many())

    def test_drawn(self):
        for seed in range(100):
            draw = random.Random(seed)
            self.check(drawn_disk(draw, draw.choice(((6, 4), (6, 12), (40, 24), (9, 9)))))

    def test_waiting_writes_are_not_in_it(self):
        disk = Disk(6, 4)
        disk.write(3, (5,) * 32)
        self.assertEqual(disk_text(disk), "disk 6 4")
        self.assertEqual(len(disk.waiting()), 1)
        disk.force()
        disk.write(3, (0,) * 32)
        self.assertEqual(disk_text(disk), "disk 6 4\n3" + " 5" * 32)
        disk.force()
        self.assertEqual(disk_text(disk), "disk 6 4")

    def test_systems(self):
        """What is read from a text can be mounted, and means the same."""
        disk = formatted(6, 12)
        system = System(disk)
        for deed in file_of(("a",), 60) + [("force",), ("make", ("b",))]:
            system.do(deed)
        self.check(disk)
        other = read_disk(disk_text(disk))
        disk.cut(())
        self.assertEqual(System(other).picture(), System(disk).picture())
        self.assertEqual(System(other).do(("make", ("c",))), ("done", None))

    def test_a_fuse_is_not_in_it(self):
        disk = made(6, 4)
        disk.fuse(0)
        self.check(disk)

    def test_no_disk(self):
        for thing in STRANGE + (System(formatted(6, 12)), "disk 6 4", None, content(1)):
            if not isinstance(thing, Disk):
                error = caught(disk_text, thing)
                self.assertIs(error.__class__, BadDisk)
                self.assertIs(error.thing, thing)


class TestWrongTexts(unittest.TestCase):
    def wrong(self, text, at):
        error = caught(read_disk, text)
        self.assertIs(error.__class__, BadText, text)
        self.assertEqual(error.at, at, text)
        self.assertIs(error.at.__class__, int)

    def test_no_strings(self):
        for thing in STRANGE + (None, 0, b"disk 6 4", ["disk 6 4"], ("disk 6 4",), Disk(6, 4), True, 1):
            if not isinstance(thing, str):
                self.wrong(thing, 0)

    def test_any_strings(self):
        for thing in STRANGE:
            if isinstance(thing, str):
                self.wrong(thing, 1)

    def test_the_first_line(self):
        for line in ("", "\n", "disk", "disk ", "disk 6", "disk 6 ", "disk 6 4 ", " disk 6 4", "disk  6 4", "disk 6  4",
                     "disk 6 4 0", "Disk 6 4", "disc 6 4", "disk\t6 4", "disk,6,4", "6 4", "disk 5 4", "disk 41 4", "disk 6 3", "disk 6 25",
                     "disk 0 0", "disk 4 6", "disk -6 4", "disk +6 4", "disk 06 4", "disk 6 04", "disk 6.0 4", "disk 6 4.",
                     "disk six 4", "disk 6_0 4", "disk 1_0 4", "disk 10 1_0", "disk 6 4\r", "disk 6 4\t", "disk 6 4\x0b", "disk 6 4\u2028",
                     "disk \u0666 4", "disk 6 \u0664", "disk \uff16 4", "disk 6 \u00b2", "disk 6 4\x00", "disk 6 4" + "0" * 5000,
                     "disk 1000000000 4", "disk 10000000000 4", "disk 0x6 4", "disk 6 4\x85", "disk 6\u00a04", "disk 6 4\x1c",
                     "disk True 4", "disk 6 -0", "disk 6e0 4", "#disk 6 4", "\ufeffdisk 6 4", "3 " + ONE):
            self.wrong(line, 1)
            self.wrong(line + "\n3 " + ONE, 1)
        self.wrong("3 " + ONE + "\ndisk 6 4", 1)

    def test_places(self):
        """The least disk has 26 places, up to 25."""
        self.assertEqual(read_disk("disk 6 4\n25 " + ONE).read(25)[:2], (1, 0))
        self.assertEqual(read_disk("disk 6 4\n0 " + ONE).read(0)[:2], (1, 0))
        for place in ("26", "27", "1000000000", "10000000000", "1" * 5000, "-1", "-0", "+3", "03", "00", "3.0", "", "x", "1_0",
                      "\u0663"):
            self.wrong(f"disk 6 4\n{place} {ONE}", 2)
            self.wrong(f"disk 6 4\n2 {ONE}\n{place} {ONE}", 3)
            self.wrong(f"disk 6 4\n2 {ONE}\n{place} {ONE}\n3 {ONE}\n1 {ONE}", 3)
        for second in (3, 2, 1, 0):
            self.wrong(f"disk 6 4\n3 {ONE}\n{second} {ONE}", 3)
        self.wrong(f"disk 6 4\n25 {ONE}\n26 {ONE}", 3)
        self.wrong(f"disk 6 4\n0 {ONE}\n0 {ONE}", 3)
        self.wrong(f"disk 6 4\n3 {ONE}\n5 {ONE}\n4 {ONE}\n6 {ONE}", 4)
        self.wrong("\n".join(["disk 6 4"] + [f"{place} {ONE}" for place in range(27)]), 28)
        read_disk("\n".join(["disk 6 4"] + [f"{place} {ONE}" for place in range(26)]))
        great = Disk(40, 24).many()
        read_disk(f"disk 40 24\n{great - 1} {ONE}")
        self.wrong(f"disk 40 24\n{great} {ONE}", 2)

    def test_words(self):
        for at in range(32):
            for word in ("1000000001", "-1", "+1", "01", "00", "", "1.0", "x", "1" * 5000, "1_0", "\u0661", "\u00b9", "True",
                         "1e3", "0x1", "\uff11", "1\t", "\t1", "1\r", "1,"):
                words = ["1"] * at + [word] + ["1"] * (31 - at)
                self.wrong("disk 6 4\n3 " + " ".join(words), 2)
            words = ["0"] * at + ["1000000000"] + ["0"] * (31 - at)
            self.assertEqual(read_disk("disk 6 4\n3 " + " ".join(words)).read(3)[at], MOST)

    def test_how_many_words(self):
        for many in (0, 1, 2, 30, 31, 33, 34, 64, 65):
            self.wrong("disk 6 4\n" + " ".join(["3"] + ["1"] * many), 2)
        for line in ("3 " + ONES + " ", " 3 " + ONES, "3  " + ONES, "3 " + ONES.replace("1 1", "1  1", 1), "3\t" + ONES,
                     "3 " + ONES.replace(" ", "\t"), "3 " + ONES.replace(" ", ","), "3 1", "3", "3 ", "", " ", "x", "disk 6 4",
                     "3 " + ONES.replace(" ", "\u00a0"), "3 " + ONES + "\x00"):
            self.wrong("disk 6 4\n" + line, 2)
            self.wrong("disk 6 4\n2 " + ONES + "\n" + line + "\n4 " + ONES, 3)

    def test_blank_blocks(self):
        self.wrong("disk 6 4\n3" + " 0" * 32, 2)
        self.wrong(f"disk 6 4\n3 {ONE}\n4" + " 0" * 32, 3)
        self.assertEqual(read_disk("disk 6 4\n3" + " 0" * 31 + " 1").read(3)[31], 1)

    def test_line_ends(self):
        good = f"disk 6 4\n3 {ONE}\n4 {ONE}"
        read_disk(good)
        self.wrong(good + "\n", 4)
        self.wrong("disk 6 4\n", 2)
        self.wrong(good.replace("\n", "\n\n", 1), 2)
        self.wrong("\n" + good, 1)
        self.wrong(good + "\n\n", 4)
        self.wrong(good.replace("\n", "\r\n"), 1)
        self.wrong(good.replace("\n", "\r"), 1)
        self.wrong(good + "\r", 3)
        self.wrong(good + "\r\n", 3)
        for end in ("\x0b", "\x0c", "\x1c", "\x1d", "\x1e", "\x85", "\u2028", "\u2029"):
            self.wrong(good.replace("\n", end), 1)
            self.wrong("disk 6 4\n" + f"3 {ONE}\n4 {ONE}".replace("\n", end), 2)
            self.wrong(good + end, 3)

    def test_the_first_wrong_line(self):
        disk = made(6, 12)
        for place in range(5, 30):
            disk.write(place, (place,) * 32)
        disk.force()
        lines = lines_of(disk)
        for at in range(len(lines)):
            for wrong in ("", "x", lines[at] + " ", lines[at] + " 1", lines[at][:-1], " " + lines[at], lines[at] + "\r"):
                found = lines[:at] + [wrong] + lines[at + 1:]
                if "\n".join(found) != "\n".join(lines) and not self.is_right(wrong, at):
                    self.wrong("\n".join(found), at + 1)
                    self.wrong("\n".join(found + ["x"]), at + 1)
                    self.wrong("\n".join(found[:at + 1]), at + 1)
            # A line twice, and two lines exchanged.
            self.wrong("\n".join(lines[:at + 1] + lines[at:]), at + 2)
            if 0 < at < len(lines) - 1:
                self.wrong("\n".join(lines[:at] + [lines[at + 1], lines[at]] + lines[at + 2:]), at + 2)
            if at > 0:
                read_disk("\n".join(lines[:at] + lines[at + 1:]))

    @staticmethod
    def is_right(line, at):
        """Whether a line that lost its last letter is still one of a text."""
        words = line.split(" ")
        return at > 0 and len(words) == 33 and words[-1].isdigit()

    def test_drawn_changes(self):
        """A text with one sign otherwise is read as the text of another disk, or is wrong."""
        right = 0
        for seed in range(400):
            draw = random.Random(seed)
            disk = drawn_disk(draw, (6, 4))
            disk.force()
            text = disk_text(disk)
            at = draw.randrange(len(text))
            other = draw.choice((text[:at] + text[at + 1:], text[:at] + draw.choice("0123456789 \nx-") + text[at + 1:],
                                 text[:at] + draw.choice("019 \n") + text[at:]))
            error = caught(read_disk, other)
            if error is None:
                right += 1
                self.assertEqual(disk_text(read_disk(other)), other)
            else:
                self.assertIs(error.__class__, BadText)
                lines = other.split("\n")
                # The lines before it are a text, and those with it are none.
                if error.at > 1:
                    read_disk("\n".join(lines[:error.at - 1]))
                self.wrong("\n".join(lines[:error.at]), error.at)
        self.assertGreater(right, 40)


if __name__ == "__main__":
    unittest.main()
