"""The nodes of a tree in memory, and the ways that lead to them."""

MOST_ENTRIES = 12
MOST_SIZE = 336
ENTRIES_IN_BLOCK = 3
WORDS_IN_BLOCK = 28


def folder_needs(many):
    """How many blocks a folder with so many entries needs."""
    return 1 + (many + ENTRIES_IN_BLOCK - 1) // ENTRIES_IN_BLOCK


def file_needs(size):
    """How many blocks a file with so many words needs."""
    return 1 + (size + WORDS_IN_BLOCK - 1) // WORDS_IN_BLOCK


class Folder:
    """A folder: its entries lead from names to nodes."""

    def __init__(self):
        self.entries = {}
        self.links = 0

    def needs(self):
        return folder_needs(len(self.entries))

    def growth(self, more):
        """How many more blocks it would need with so many more entries."""
        return folder_needs(len(self.entries) + more) - self.needs()

    def children(self):
        """The nodes of its entries, in ascending order of names."""
        return [self.entries[name] for name in sorted(self.entries)]

    def is_kept(self):
        return self.links > 0

    def told(self):
        return ("folder", len(self.entries), 1)


class File:
    """A file: its words, and how many entries and open handles lead to it."""

    def __init__(self, words):
        self.words = words
        self.links = 0
        self.holders = 0

    def needs(self):
        return file_needs(len(self.words))

    def growth(self, size):
        """How many more blocks it would need with this size."""
        return file_needs(size) - self.needs()

    def children(self):
        return []

    def is_kept(self):
        return self.links > 0 or self.holders > 0

    def told(self):
        return ("file", len(self.words), self.links)


def node_at(root, path):
    """The node to which the path leads, or None."""
    node = root
    for name in path:
        if not isinstance(node, Folder) or name not in node.entries:
            return None
        node = node.entries[name]
    return node


def place_of(root, path):
    """The folder to which the path without its last name leads, or None."""
    node = node_at(root, path[:-1])
    return node if isinstance(node, Folder) else None


def nodes_from(root):
    """All nodes that can be reached from the root, in the order of their numbers in a picture."""
    nodes = [root]
    known = {root: True}
    at = 0
    while at < len(nodes):
        children = nodes[at].children()
        for node in children:
            if node not in known:
                known[node] = True
                nodes.append(node)
        at += 1
    return nodes
