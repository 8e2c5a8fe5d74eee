"""Folders in keyed blocks: entries as words, three of them in each block."""

from trailkeep.errors import BadEntries
from trailkeep.groups import are_contents, filled
from trailkeep.kinds import MOST_LETTERS, are_entries, is_way, is_within, is_word
from trailkeep.nodes import ENTRIES_IN_BLOCK, MOST_ENTRIES, folder_needs

# The letter with the number n is the one at n - 1.
LETTERS = "abcdefghijklmnopqrstuvwxyz"
# The letters of a name, and behind them the number.
WORDS_OF_ENTRY = MOST_LETTERS + 1


def is_path(thing):
    """Whether the thing is a path."""
    return is_way(thing)


def folder_blocks(entries):
    """The contents of the blocks of a folder with the pairs of a name and a number."""
    if not are_entries(entries) or not all([is_word(number) for _, number in entries]):
        raise BadEntries(entries)
    words = [_entry_words(name, number) for name, number in entries]
    return tuple([_content(words[at:at + ENTRIES_IN_BLOCK]) for at in range(0, len(words), ENTRIES_IN_BLOCK)])


def _entry_words(name, number):
    letters = tuple([LETTERS.index(sign) + 1 for sign in name])
    return letters + (0,) * (MOST_LETTERS - len(letters)) + (number,)


def _content(rows):
    """The content of one block for the words of its entries."""
    return filled(tuple([word for row in rows for word in row]))


def folder_entries(size, contents):
    """The pairs of a name and a number of a folder with the size and the contents."""
    if not is_within(size, 0, MOST_ENTRIES) or not are_contents(contents, folder_needs(size) - 1):
        raise BadEntries((size, contents))
    entries = entries_within(size, contents)
    if entries is None:
        raise BadEntries((size, contents))
    return entries


def entries_within(size, contents):
    """So many entries of the contents; None if they are not those of a right folder."""
    entries = tuple([_entry_at(contents, at) for at in range(size)])
    # Whatever is not as it should be gets lost between here and the contents of these entries.
    return entries if are_entries(entries) and folder_blocks(entries) == contents else None


def _entry_at(contents, at):
    block, row = divmod(at, ENTRIES_IN_BLOCK)
    words = contents[block][row * WORDS_OF_ENTRY:(row + 1) * WORDS_OF_ENTRY]
    letters = [LETTERS[word - 1] for word in words[:MOST_LETTERS] if 1 <= word <= len(LETTERS)]
    return "".join(letters), words[MOST_LETTERS]
