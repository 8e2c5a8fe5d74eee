"""The kinds of values that many modules ask for."""

from trailkeep.nodes import MOST_ENTRIES

MOST_WORD = 10 ** 9
MOST_LETTERS = 8
MOST_NAMES = 8
MOST_SEGMENTS = 40


def is_integer(thing):
    # True and False are an int for Python, but no integer for the document.
    return isinstance(thing, int) and not isinstance(thing, bool)


def is_within(thing, least, most):
    return is_integer(thing) and least <= thing <= most


def are_within(thing, least, most):
    """Whether the thing is a tuple of integers from least to most."""
    return isinstance(thing, tuple) and all([is_within(part, least, most) for part in thing])


def are_ascending(things):
    """Whether each of the things is greater than the one before it."""
    return all([one < two for one, two in zip(things, things[1:])])


def is_word(thing):
    return is_within(thing, 0, MOST_WORD)


def are_words(thing):
    return are_within(thing, 0, MOST_WORD)


def is_name(thing):
    # Not islower or isalpha: they take letters beyond a to z.
    return isinstance(thing, str) and 1 <= len(thing) <= MOST_LETTERS and all(["a" <= sign <= "z" for sign in thing])


def is_way(thing):
    """Whether the thing is a path: a tuple of at most 8 names."""
    return isinstance(thing, tuple) and len(thing) <= MOST_NAMES and all([is_name(name) for name in thing])


def are_entries(thing):
    """Whether the thing is a tuple of pairs of a name and an integer, as a folder may have them."""
    if not isinstance(thing, tuple) or len(thing) > MOST_ENTRIES or not all([_is_entry(pair) for pair in thing]):
        return False
    return are_ascending([name for name, _ in thing])


def _is_entry(thing):
    return isinstance(thing, tuple) and len(thing) == 2 and is_name(thing[0]) and is_integer(thing[1])
