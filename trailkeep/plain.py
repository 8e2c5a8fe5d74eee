"""Plain trees: deeds, answers and pictures."""

from trailkeep.deeds import act
from trailkeep.errors import BadDeed, BadPicture, BadRoom
from trailkeep.kinds import MOST_SEGMENTS, are_entries, are_within, are_words, is_integer, is_way, is_within, is_word
from trailkeep.nodes import Folder, MOST_SIZE
from trailkeep.pictures import picture_of, root_of
from trailkeep.tree import MOST_HANDLES, Tree

MOST_WORDS = 56


def _is_path(thing):
    return is_way(thing)


def _is_number(thing):
    # Positions, sizes and numbers of words have the bounds of words.
    return is_word(thing)


def _are_deed_words(thing):
    return are_words(thing) and len(thing) <= MOST_WORDS


def _is_handle(thing):
    return is_within(thing, 0, MOST_HANDLES - 1)


def _are_segments(thing):
    return are_within(thing, 0, MOST_SEGMENTS - 1) and len(thing) <= MOST_SEGMENTS


PARTS = {
    "path": _is_path,
    "number": _is_number,
    "words": _are_deed_words,
    "handle": _is_handle,
    "segments": _are_segments,
}

FORMS = {
    "folder": ("path",),
    "make": ("path",),
    "write": ("path", "number", "words"),
    "cut": ("path", "number"),
    "read": ("path", "number", "number"),
    "list": ("path",),
    "stat": ("path",),
    "link": ("path", "path"),
    "rename": ("path", "path"),
    "remove": ("path",),
    "open": ("path",),
    "close": ("handle",),
    "hwrite": ("handle", "number", "words"),
    "hcut": ("handle", "number"),
    "hread": ("handle", "number", "number"),
    "hstat": ("handle",),
    "force": (),
    "root": (),
    "clean": ("segments",),
}


def _is_part(kind, thing):
    check = PARTS[kind]
    return check(thing)


def is_deed(thing):
    """Whether the thing is a deed."""
    # The word must be a string before it is looked up: other things may not fit as a key.
    if not isinstance(thing, tuple) or len(thing) == 0 or not isinstance(thing[0], str) or thing[0] not in FORMS:
        return False
    form = FORMS[thing[0]]
    if len(thing) != 1 + len(form):
        return False
    return all([_is_part(kind, part) for kind, part in zip(form, thing[1:])])


def is_picture(thing):
    """Whether the thing is the picture of a tree."""
    if not isinstance(thing, tuple) or len(thing) == 0:
        return False
    if not all([_is_item(item) for item in thing]):
        return False
    return thing[0][0] == "folder" and _is_numbered(thing)


def _is_item(thing):
    if not isinstance(thing, tuple) or len(thing) != 2:
        return False
    if thing[0] == "folder":
        return are_entries(thing[1])
    return thing[0] == "file" and are_words(thing[1]) and len(thing[1]) <= MOST_SIZE


def _is_numbered(picture):
    """Whether the numbers in the entries are those that the nodes get, and each folder has one entry."""
    known = 1
    for at, (kind, parts) in enumerate(picture):
        if at >= known:
            # No entry of the nodes before leads to this one.
            return False
        numbers = [number for _, number in parts] if kind == "folder" else []
        for number in numbers:
            if number == known and known < len(picture):
                known += 1
            elif not 0 < number < known or picture[number][0] == "folder":
                return False
    return known == len(picture)


class Plain:
    """A tree of folders and files with a room, and the handles that are open on it."""

    def __init__(self, room):
        if not is_integer(room) or room < 1:
            raise BadRoom(room)
        self._tree = Tree(room, Folder())

    def do(self, deed):
        if not is_deed(deed):
            raise BadDeed(deed)
        return act(self._tree, deed)

    def picture(self):
        return picture_of(self._tree.root)

    def needs(self):
        return self._tree.used

    def handles(self):
        return self._tree.handles()

    def fallen(self):
        return from_picture(self._tree.room, self.picture())


def from_picture(room, picture):
    """A plain tree with the room and the picture, and no open handles."""
    plain = Plain(room)
    if not is_picture(picture):
        raise BadPicture(picture)
    tree = Tree(room, root_of(picture))
    if tree.used > room:
        raise BadPicture(picture)
    plain._tree = tree
    return plain
