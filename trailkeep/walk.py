"""The walk through keyed blocks: from the inode of the root to all that it leads to, or to the first wrong thing."""

from trailkeep.folders import entries_within
from trailkeep.inodes import FILE, FOLDER, inode_parts, words_within

# The key of the root's inode.
ROOT_KEY = 0


class Walk:
    """What the walk finds in the contents, which are given by their keys."""

    def __init__(self, contents):
        self._contents = contents
        # The keys of the inodes, in the order in which they are first reached.
        self.order = []
        # For each inode its kind, its size, its links and the keys of its blocks.
        self.inodes = {}
        # For each inode the words of the file, or the entries of the folder.
        self.parts = {}
        # For each inode the entries that lead to it: pairs of the key of the folder and the name.
        self._ways = {}
        # For each block the key of its inode, and its position there.
        self._spots = {}
        # The kind and the key of the first thing that is wrong, or None.
        self.wrong = self._first_wrong()

    def picture(self):
        """The picture of the tree, if nothing is wrong."""
        numbers = {key: number for number, key in enumerate(self.order)}
        return tuple([self._item(key, numbers) for key in self.order])

    def keys_of(self, key):
        """The keys of the node with this number: that of its inode, then those of its blocks."""
        return (key,) + self.inodes[key][3]

    def owners(self):
        """The pairs of a key that is reached and its owner."""
        return tuple([(key, self._owner(key)) for key in sorted(self._contents) if self._is_reached(key)])

    def left(self):
        """The keys that are not reached."""
        return tuple([key for key in sorted(self._contents) if not self._is_reached(key)])

    def _item(self, key, numbers):
        if self.inodes[key][0] == FILE:
            return ("file", self.parts[key])
        return ("folder", tuple([(name, numbers[child]) for name, child in self.parts[key]]))

    def _owner(self, key):
        if key == ROOT_KEY:
            return ("root",)
        if key in self._spots:
            return ("block",) + self._spots[key]
        return ("entry",) + min(self._ways[key])

    def _is_reached(self, key):
        return key in self.inodes or key in self._spots

    def _first_wrong(self):
        wrong = self._reach_root()
        at = 0
        while wrong is None and at < len(self.order):
            wrong = self._pass_inode(self.order[at])
            at += 1
        return self._wrong_links() if wrong is None else wrong

    def _reach_root(self):
        wrong = self._reach_inode(ROOT_KEY)
        if wrong is None and self.inodes[ROOT_KEY][0] == FILE:
            return ("inode", ROOT_KEY)
        return wrong

    def _reach_inode(self, key):
        parts = inode_parts(self._contents[key]) if key in self._contents else None
        if parts is None:
            return ("inode", key)
        self.order.append(key)
        self.inodes[key] = parts
        self._ways[key] = []
        return None

    def _pass_inode(self, key):
        """Goes through the blocks of the inode, and through the entries that stand in them."""
        kind, size, _, keys = self.inodes[key]
        for at, block in enumerate(keys):
            wrong = self._reach_block(block, (key, at))
            if wrong is not None:
                return wrong
        contents = tuple([self._contents[block] for block in keys])
        told = words_within(size, contents) if kind == FILE else entries_within(size, contents)
        if told is None:
            return ("block", key)
        self.parts[key] = told
        return None if kind == FILE else self._pass_entries(key, told)

    def _reach_block(self, key, spot):
        if self._is_reached(key):
            return ("twice", key)
        if key not in self._contents:
            return ("lacking", key)
        self._spots[key] = spot
        return None

    def _pass_entries(self, folder, entries):
        for name, key in entries:
            wrong = self._reach_entry(key)
            if wrong is not None:
                return wrong
            self._ways[key].append((folder, name))
        return None

    def _reach_entry(self, key):
        if key in self._spots or key in self.inodes and self.inodes[key][0] == FOLDER:
            return ("twice", key)
        return None if key in self.inodes else self._reach_inode(key)

    def _wrong_links(self):
        for key in sorted(self.inodes):
            kind, _, links, _ = self.inodes[key]
            if kind == FILE and links != len(self._ways[key]):
                return ("links", key)
        return None
