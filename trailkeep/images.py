"""Texts of disks: one line for the sizes, and one for each block that is not blank."""

from trailkeep.disk import BLANK, BLOCK_WORDS, Disk, is_block
from trailkeep.errors import BadDisk, BadSize, BadText

# The first word of a text.
DISK_WORD = "disk"
# The greatest word has so many; a longer row of digits is not worth being read.
MOST_DIGITS = 10


def disk_text(disk):
    """The text of the disk, without its waiting writes."""
    if not isinstance(disk, Disk):
        raise BadDisk(disk)
    segments, blocks, _, _ = disk.sizes()
    lines = [f"{DISK_WORD} {segments} {blocks}"]
    for place, block in enumerate(disk.standing()):
        if block != BLANK:
            lines.append(" ".join([str(word) for word in (place,) + block]))
    return "\n".join(lines)


def read_disk(text):
    """A new disk that has the text."""
    if not isinstance(text, str):
        raise BadText(0)
    lines = text.split("\n")
    disk = _disk_of(lines[0])
    least = 0
    for at, line in enumerate(lines[1:], start=2):
        numbers = _numbers(line.split(" "))
        if not _is_row(numbers, least, disk.many()):
            raise BadText(at)
        disk.write(numbers[0], numbers[1:])
        least = numbers[0] + 1
    disk.force()
    return disk


def _disk_of(line):
    """A blank disk with the sizes of the first line."""
    words = line.split(" ")
    sizes = _numbers(words[1:])
    if words[0] != DISK_WORD or len(sizes) != 2:
        raise BadText(1)
    try:
        return Disk(sizes[0], sizes[1])
    except BadSize:
        raise BadText(1)


def _is_row(numbers, least, many):
    """Whether the numbers are a place from the least one on, and the block there, which is not blank."""
    if len(numbers) != 1 + BLOCK_WORDS or not least <= numbers[0] < many:
        return False
    return is_block(numbers[1:]) and numbers[1:] != BLANK


def _numbers(words):
    """The numbers as which the words are read; none at all if one of them cannot be read so."""
    return tuple([int(word) for word in words]) if all([_is_numeral(word) for word in words]) else ()


def _is_numeral(word):
    """Whether the word is a number as Python writes it, of those that can stand in a text."""
    # Not isdigit: it takes digits of other alphabets.
    if not 1 <= len(word) <= MOST_DIGITS or not all(["0" <= sign <= "9" for sign in word]):
        return False
    return word == "0" or word[0] != "0"
