"""Groups: each is a summary of what it puts and drops, and a data block for each key that it puts."""

from trailkeep.disk import BLOCK_WORDS, CONTENT_WORDS, place_at
from trailkeep.errors import BadContent, BadKey, BadNumber
from trailkeep.kinds import MOST_WORD, are_ascending, are_words, is_within

# The second words of blocks, which tell what they are.
SUMMARY = 1
DATA = 2
# The greatest key of the largest disk, which has 40 segments of 24 blocks.
MOST_KEY = 827
# The most keys that one group puts and drops together.
MOST_CHANGES = 24
# The words of a summary that stand before its keys.
WORDS_BEFORE_KEYS = 6


def is_content(thing):
    return are_words(thing) and len(thing) == CONTENT_WORDS


def are_contents(thing, many):
    """Whether the thing is a tuple of so many contents."""
    return isinstance(thing, tuple) and len(thing) == many and all([is_content(part) for part in thing])


def filled(words):
    """The content that begins with the words, and has zeros behind them."""
    return words + (0,) * (CONTENT_WORDS - len(words))


def content_of(block):
    return block[3:3 + CONTENT_WORDS]


def data_block(number, key, content):
    if not is_within(number, 1, MOST_WORD):
        raise BadNumber(number)
    if not is_within(key, 0, MOST_KEY):
        raise BadKey(key)
    if not is_content(content):
        raise BadContent(content)
    return (number, DATA, key) + content + (number,)


def summary_block(number, ahead, beyond, puts, drops):
    words = (number, SUMMARY, ahead, beyond, len(puts), len(drops)) + puts + drops
    return words + (0,) * (BLOCK_WORDS - 1 - len(words)) + (number,)


def judge_group(disk, segment, offset):
    """The group that is there, or the first thing that is wrong with it."""
    place = place_at(disk, segment, offset)
    block = disk.read(place)
    number = block[0]
    if number != block[-1] or number == 0:
        return ("torn",)
    if block[1] != SUMMARY:
        return ("kind",)
    told = summary_told(disk, offset, block)
    if told is None:
        return ("form",)
    ahead, beyond, puts, drops = told
    for at, key in enumerate(puts):
        data = disk.read(place + 1 + at)
        if data[:3] != (number, DATA, key) or data[-1] != number:
            return ("block", at)
    return ("group", number, ahead, beyond, puts, drops)


def summary_told(disk, offset, block):
    """What the summary tells of a group that fits into a segment from the offset on; None if it is none of such."""
    segments, blocks, keys, _ = disk.sizes()
    ahead, beyond, many_puts, many_drops = block[2:WORDS_BEFORE_KEYS]
    if beyond >= segments or offset + 1 + many_puts > blocks or not 1 <= many_puts + many_drops <= MOST_CHANGES:
        return None
    between = WORDS_BEFORE_KEYS + many_puts
    puts = block[WORDS_BEFORE_KEYS:between]
    drops = block[between:between + many_drops]
    if not are_keys(puts, keys) or not are_keys(drops, keys) or any([key in puts for key in drops]):
        return None
    # The words behind the keys have to be zeros.
    if block != summary_block(block[0], ahead, beyond, puts, drops):
        return None
    return ahead, beyond, puts, drops


def are_keys(words, keys):
    """Whether the words are ascending keys of a disk that has so many."""
    return are_ascending(words) and all([word < keys for word in words])
