"""The disk: a sequence of blocks whose writes wait until they are forced, or are lost, kept or torn at a cut."""

from trailkeep.errors import BadBlock, BadCut, BadDisk, BadNumber, BadOffset, BadPlace, BadSegment, BadSize, PowerCut
from trailkeep.kinds import MOST_SEGMENTS, are_within, are_words, is_integer, is_within

LEAST_SEGMENTS = 6
LEAST_BLOCKS = 4
MOST_BLOCKS = 24
BLOCK_WORDS = 32
CONTENT_WORDS = 28
# The words of a root beside the places of its keys: two for its head, beyond and last.
ROOT_WORDS = 4
BLANK = (0,) * BLOCK_WORDS


def is_block(thing):
    return are_words(thing) and len(thing) == BLOCK_WORDS


def is_keep(thing):
    return are_within(thing, 0, BLOCK_WORDS)


def is_fuse(thing):
    return is_integer(thing) and thing >= 0


class Disk:
    """A blank disk with so many segments, and so many blocks in each of them."""

    def __init__(self, segments, blocks):
        if not is_within(segments, LEAST_SEGMENTS, MOST_SEGMENTS):
            raise BadSize(segments)
        if not is_within(blocks, LEAST_BLOCKS, MOST_BLOCKS):
            raise BadSize(blocks)
        keys = (segments - 4) * (blocks - 1)
        area = (keys + ROOT_WORDS + CONTENT_WORDS - 1) // CONTENT_WORDS
        self._sizes = (segments, blocks, keys, area)
        self._standing = [BLANK] * (2 * area + segments * blocks)
        self._waiting = []
        # The newest waiting block of each place that has one, so that reading need not search.
        self._newest = {}
        self._fuse = None

    def sizes(self):
        return self._sizes

    def many(self):
        return len(self._standing)

    def read(self, place):
        self._check_place(place)
        return self._newest[place] if place in self._newest else self._standing[place]

    def write(self, place, block):
        self._check_place(place)
        if not is_block(block):
            raise BadBlock(block)
        self._burn()
        self._waiting.append((place, block))
        self._newest[place] = block

    def force(self):
        self._burn()
        for place, block in self._waiting:
            self._standing[place] = block
        self._wait_for_none()

    def waiting(self):
        return tuple(self._waiting)

    def standing(self):
        return tuple(self._standing)

    def cut(self, keep):
        """The power fails: each waiting write keeps so many words as the keep says, and the others none."""
        if not is_keep(keep):
            raise BadCut(keep)
        for (place, block), many in zip(self._waiting, keep):
            self._standing[place] = block[:many] + self._standing[place][many:]
        self._wait_for_none()
        self._fuse = None

    def fuse(self, many):
        """From now on so many calls of write and force are done, and then no more."""
        if not is_fuse(many):
            raise BadNumber(many)
        self._fuse = many

    def copied(self):
        other = Disk(self._sizes[0], self._sizes[1])
        other._standing = list(self._standing)
        other._waiting = list(self._waiting)
        other._newest = dict(self._newest)
        return other

    def _check_place(self, place):
        if not is_within(place, 0, len(self._standing) - 1):
            raise BadPlace(place)

    def _burn(self):
        """Counts a call of write or force against the fuse."""
        if self._fuse is None:
            return
        if self._fuse == 0:
            raise PowerCut()
        self._fuse -= 1

    def _wait_for_none(self):
        self._waiting = []
        self._newest = {}


def segment_of(disk, place):
    """The segment in which the place is."""
    _, blocks, _, area = disk.sizes()
    return (place - 2 * area) // blocks


def place_at(disk, segment, offset):
    """The place of the block at the offset in the segment."""
    if not isinstance(disk, Disk):
        raise BadDisk(disk)
    segments, blocks, _, area = disk.sizes()
    if not is_within(segment, 0, segments - 1):
        raise BadSegment(segment)
    if not is_within(offset, 0, blocks - 1):
        raise BadOffset(offset)
    return 2 * area + segment * blocks + offset
