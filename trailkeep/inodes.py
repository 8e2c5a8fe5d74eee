"""Inodes, and the contents of the blocks of files."""

from trailkeep.disk import CONTENT_WORDS
from trailkeep.errors import BadContent, BadInode, BadWords
from trailkeep.groups import are_contents, filled, is_content
from trailkeep.kinds import are_words, is_integer, is_within, is_word
from trailkeep.nodes import MOST_ENTRIES, MOST_SIZE, file_needs, folder_needs

# The kinds of inodes.
FILE = 1
FOLDER = 2
# The words of an inode that stand before its keys: its kind, its size and its links.
WORDS_BEFORE_KEYS = 3


def is_inode(thing):
    """Whether the thing is a right inode."""
    return is_content(thing) and inode_parts(thing) is not None


def inode_content(kind, size, links, keys):
    if not _is_start(kind, size, links) or not are_words(keys) or len(keys) != _blocks_of(kind, size):
        raise BadInode((kind, size, links, keys))
    return filled((kind, size, links) + keys)


def inode_told(content):
    if not is_content(content):
        raise BadContent(content)
    parts = inode_parts(content)
    if parts is None:
        raise BadInode(content)
    return parts


def inode_parts(content):
    """The kind, the size, the links and the keys that the content tells; None if it is no right inode."""
    kind, size, links = content[:WORDS_BEFORE_KEYS]
    if not _is_start(kind, size, links):
        return None
    end = WORDS_BEFORE_KEYS + _blocks_of(kind, size)
    if any([word != 0 for word in content[end:]]):
        return None
    return kind, size, links, content[WORDS_BEFORE_KEYS:end]


def _is_start(kind, size, links):
    """Whether a right inode may begin with these words."""
    if not is_integer(kind):
        return False
    if kind == FILE:
        return is_within(size, 0, MOST_SIZE) and is_word(links)
    return kind == FOLDER and is_within(size, 0, MOST_ENTRIES) and is_within(links, 1, 1)


def _blocks_of(kind, size):
    """How many blocks belong to an inode, which is itself one of those that its node needs."""
    return (file_needs(size) if kind == FILE else folder_needs(size)) - 1


def file_blocks(words):
    """The contents of the blocks of a file with the words."""
    if not are_words(words) or len(words) > MOST_SIZE:
        raise BadWords(words)
    return tuple([filled(words[at:at + CONTENT_WORDS]) for at in range(0, len(words), CONTENT_WORDS)])


def file_words(size, contents):
    """The words of a file with the size and the contents."""
    if not is_within(size, 0, MOST_SIZE) or not are_contents(contents, _blocks_of(FILE, size)):
        raise BadWords((size, contents))
    words = words_within(size, contents)
    if words is None:
        raise BadWords((size, contents))
    return words


def words_within(size, contents):
    """So many words of the contents; None if a word behind them is not 0."""
    words = tuple([word for content in contents for word in content])
    return None if any([word != 0 for word in words[size:]]) else words[:size]
