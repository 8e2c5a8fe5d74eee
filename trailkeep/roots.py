"""Roots: each tells from time to time where the road goes on and where all keys are."""

from trailkeep.disk import CONTENT_WORDS, ROOT_WORDS, Disk
from trailkeep.errors import BadArea, BadDisk
from trailkeep.groups import content_of
from trailkeep.kinds import is_within

# The second word of the blocks of a root.
ROOT = 3


def made(segments, blocks):
    """A new disk that has a first root."""
    disk = Disk(segments, blocks)
    write_root(disk, 0, 1, root_words((0, 0), 1, 0, {}, disk.sizes()[2]))
    disk.force()
    return disk


def root_words(head, beyond, last, places, keys):
    """The words of a root; places is a dict with the place of each living key."""
    marks = [places[key] + 1 if key in places else 0 for key in range(keys)]
    return head + (beyond, last) + tuple(marks)


def write_root(disk, area, number, words):
    """Writes the root with these words into the area, block by block."""
    size = disk.sizes()[3]
    filled = words + (0,) * (size * CONTENT_WORDS - len(words))
    for at in range(size):
        part = filled[at * CONTENT_WORDS:(at + 1) * CONTENT_WORDS]
        disk.write(area * size + at, (number, ROOT, at) + part + (number,))


def judge_root(disk, area):
    """The root that is there, or the first thing that is wrong with it."""
    if not isinstance(disk, Disk):
        raise BadDisk(disk)
    if not is_within(area, 0, 1):
        raise BadArea(area)
    size = disk.sizes()[3]
    blocks = [disk.read(area * size + at) for at in range(size)]
    number = blocks[0][0]
    words = ()
    for at, block in enumerate(blocks):
        if number == 0 or block[:3] != (number, ROOT, at) or block[-1] != number:
            return ("broken", at)
        words = words + content_of(block)
    told = words_told(disk, words)
    return ("form",) if told is None else ("root", number) + told


def words_told(disk, words):
    """What the words of a root tell; None if they are none of a root."""
    segments, blocks, keys, area = disk.sizes()
    segment, offset, beyond, last = words[:ROOT_WORDS]
    if segment >= segments or offset > blocks or beyond >= segments:
        return None
    marks = words[ROOT_WORDS:ROOT_WORDS + keys]
    # A mark is 1 more than a place, and the first segment is behind both areas.
    if any([mark != 0 and not 2 * area < mark <= disk.many() for mark in marks]):
        return None
    if any([word != 0 for word in words[ROOT_WORDS + keys:]]):
        return None
    places = tuple([None if mark == 0 else mark - 1 for mark in marks])
    return segment, offset, beyond, last, places


def newer_root(disk):
    numbers = [root_number(disk, area) for area in range(2)]
    if numbers == [0, 0]:
        return None
    return 0 if numbers[0] >= numbers[1] else 1


def root_number(disk, area):
    """The number of the root in the area, 0 if there is none."""
    told = judge_root(disk, area)
    return told[1] if told[0] == "root" else 0
