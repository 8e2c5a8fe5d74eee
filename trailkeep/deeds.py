"""What each deed does to a tree, and what it answers.

Every function looks for the words of refusal in the order in which the document lists them, before it changes
anything.
"""

from trailkeep.nodes import File, Folder, MOST_ENTRIES, MOST_SIZE, node_at, place_of


def act(tree, deed):
    """Does the deed on the tree and returns the answer."""
    tree.touched = {}
    action = ACTIONS[deed[0]]
    parts = deed[1:]
    return action(tree, *parts)


def _done(worth):
    return ("done", worth)


def _refused(word):
    return ("refused", word)


def _why_no_file(node):
    """The word of refusal if the node is no file, or None."""
    if node is None:
        return "no path"
    return "no file" if isinstance(node, Folder) else None


def _do_folder(tree, path):
    return _do_enter(tree, path, Folder())


def _do_make(tree, path):
    return _do_enter(tree, path, File(()))


def _do_link(tree, path, new):
    node = node_at(tree.root, path)
    word = _why_no_file(node)
    if word is not None:
        return _refused(word)
    return _do_enter(tree, new, node)


def _do_enter(tree, path, node):
    """Adds an entry for the node at the path, where there is none yet."""
    if path == ():
        return _refused("there")
    place = place_of(tree.root, path)
    if place is None:
        return _refused("no path")
    if path[-1] in place.entries:
        return _refused("there")
    if len(place.entries) == MOST_ENTRIES:
        return _refused("crowded")
    if not tree.has_room(tree.entry_cost(place, node)):
        return _refused("room")
    tree.enter(place, path[-1], node)
    return _done(None)


def _do_write(tree, path, at, words):
    node = node_at(tree.root, path)
    word = _why_no_file(node)
    return _write_file(tree, node, at, words) if word is None else _refused(word)


def _do_hwrite(tree, handle, at, words):
    if handle not in tree.held:
        return _refused("no handle")
    return _write_file(tree, tree.held[handle], at, words)


def _write_file(tree, file, at, words):
    end = at + len(words)
    size = max(len(file.words), end)
    if at > len(file.words):
        return _refused("gap")
    if size > MOST_SIZE:
        return _refused("long")
    if not tree.has_room(file.growth(size)):
        return _refused("room")
    tree.rewrite(file, file.words[:at] + words + file.words[end:])
    return _done(size)


def _do_cut(tree, path, size):
    node = node_at(tree.root, path)
    word = _why_no_file(node)
    return _cut_file(tree, node, size) if word is None else _refused(word)


def _do_hcut(tree, handle, size):
    if handle not in tree.held:
        return _refused("no handle")
    return _cut_file(tree, tree.held[handle], size)


def _cut_file(tree, file, size):
    if size > len(file.words):
        return _refused("long")
    tree.rewrite(file, file.words[:size])
    return _done(None)


def _do_read(tree, path, at, many):
    node = node_at(tree.root, path)
    word = _why_no_file(node)
    return _done(node.words[at:at + many]) if word is None else _refused(word)


def _do_hread(tree, handle, at, many):
    if handle not in tree.held:
        return _refused("no handle")
    return _done(tree.held[handle].words[at:at + many])


def _do_list(tree, path):
    node = node_at(tree.root, path)
    if node is None:
        return _refused("no path")
    return _done(tuple(sorted(node.entries))) if isinstance(node, Folder) else _refused("no folder")


def _do_stat(tree, path):
    node = node_at(tree.root, path)
    return _refused("no path") if node is None else _done(node.told())


def _do_hstat(tree, handle):
    return _done(tree.held[handle].told()) if handle in tree.held else _refused("no handle")


def _do_rename(tree, path, new):
    if path == () or new == ():
        return _refused("root")
    node = node_at(tree.root, path)
    place = place_of(tree.root, new)
    if node is None or place is None:
        return _refused("no path")
    if isinstance(node, Folder) and len(new) > len(path) and new[:len(path)] == path:
        return _refused("within")
    source = place_of(tree.root, path)
    old = place.entries.get(new[-1], None)
    if old == node:
        return _done(None)
    word = _why_not_into(tree, source, place) if old is None else _why_not_over(node, old)
    if word is not None:
        return _refused(word)
    if old is not None:
        tree.strike(place, new[-1])
    # The new entry comes first, so that the node is in an entry all the time.
    tree.enter(place, new[-1], node)
    tree.strike(source, path[-1])
    return _done(None)


def _why_not_over(node, old):
    """The word of refusal if the node cannot replace the old one, or None."""
    if isinstance(node, Folder) != isinstance(old, Folder):
        return "there"
    return "not empty" if isinstance(old, Folder) and old.entries else None


def _why_not_into(tree, source, place):
    """The word of refusal if an entry of the source cannot move to the place, or None."""
    if source == place:
        return None
    if len(place.entries) == MOST_ENTRIES:
        return "crowded"
    return None if tree.has_room(place.growth(1) + source.growth(-1)) else "room"


def _do_remove(tree, path):
    if path == ():
        return _refused("root")
    node = node_at(tree.root, path)
    if node is None:
        return _refused("no path")
    if isinstance(node, Folder) and node.entries:
        return _refused("not empty")
    tree.strike(place_of(tree.root, path), path[-1])
    return _done(None)


def _do_open(tree, path):
    node = node_at(tree.root, path)
    word = _why_no_file(node)
    if word is not None:
        return _refused(word)
    handle = tree.least_handle()
    if handle is None:
        return _refused("handles")
    tree.hold(handle, node)
    return _done(handle)


def _do_close(tree, handle):
    if handle not in tree.held:
        return _refused("no handle")
    tree.let_go(handle)
    return _done(None)


def _do_nothing(tree, *parts):
    """For the deeds that only concern a disk."""
    return _done(None)


ACTIONS = {
    "folder": _do_folder,
    "make": _do_make,
    "write": _do_write,
    "cut": _do_cut,
    "read": _do_read,
    "list": _do_list,
    "stat": _do_stat,
    "link": _do_link,
    "rename": _do_rename,
    "remove": _do_remove,
    "open": _do_open,
    "close": _do_close,
    "hwrite": _do_hwrite,
    "hcut": _do_hcut,
    "hread": _do_hread,
    "hstat": _do_hstat,
    "force": _do_nothing,
    "root": _do_nothing,
    "clean": _do_nothing,
}
