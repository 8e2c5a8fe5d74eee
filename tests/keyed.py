"""Tells a second time how trees stand in keyed blocks, and what each deed puts and drops.

Everything is worked out from the whole tree before and behind a deed; nothing of the package is used.
"""

import copy

from model import Model


def padded(words):
    words = list(words)
    return tuple(words + [0] * (28 - len(words)))


def inode(kind, size, links, keys):
    return padded([kind, size, links, *keys])


def word_blocks(words):
    """The contents for the words of a file."""
    words = list(words)
    found = []
    while words:
        found.append(padded(words[:28]))
        words = words[28:]
    return found


def entry_blocks(entries):
    """The contents for pairs of a name and a number."""
    rows = []
    for name, number in entries:
        letters = [ord(sign) - 96 for sign in name]
        rows.append(letters + [0] * (8 - len(letters)) + [number])
    return [padded(sum(rows[at:at + 3], [])) for at in range(0, len(rows), 3)]


def leading_to(*entries):
    """The content of one block with the pairs of a name and a number."""
    return entry_blocks(entries)[0]


def many_blocks(node):
    return -(-len(node) // (3 if isinstance(node, dict) else 28))


def stored(nodes, keys):
    """The contents by keys; nodes are those of a model, and keys has for each of them a list of its keys."""
    children = [child for node in nodes.values() if isinstance(node, dict) for child in node.values()]
    found = {}
    for number, node in nodes.items():
        own = keys[number]
        if isinstance(node, dict):
            contents = entry_blocks((name, keys[node[name]][0]) for name in sorted(node))
            head = inode(2, len(node), 1, own[1:])
        else:
            contents = word_blocks(node)
            head = inode(1, len(node), children.count(number), own[1:])
        for key, content in zip(own, [head] + contents, strict=True):
            found[key] = content
    return found


def nodes_of_picture(picture):
    """The nodes of a model that has the picture, by their numbers in it."""
    return {number: dict(parts) if kind == "folder" else list(parts) for number, (kind, parts) in enumerate(picture)}


def keyed_under(picture, keys):
    """Keyed blocks for the picture, whose nodes and blocks get the keys in turn, the inodes first."""
    nodes = nodes_of_picture(picture)
    owned = {number: [keys[number]] for number in nodes}
    rest = list(keys[len(nodes):])
    for number, node in nodes.items():
        for _ in range(many_blocks(node)):
            owned[number].append(rest.pop(0))
    return tuple(sorted(stored(nodes, owned).items()))


def name_of(words):
    return "".join(chr(96 + word) for word in words if word)


class KeyedModel:
    """A plain tree with a room, and the keys that its nodes and their blocks have."""

    def __init__(self, room, meaning):
        """The meaning bears a tree; what does not belong to it is left."""
        self.model = Model(room)
        self.owned = {}
        self.numbers = {}
        table = dict(meaning)
        self.model.nodes = {}
        self.take(table, 0)
        self.left = tuple(sorted(set(table) - {key for keys in self.owned.values() for key in keys}))
        self.model.fresh = len(self.model.nodes)

    def take(self, table, key):
        """Takes over the node whose inode has the key; returns its number."""
        if key in self.numbers:
            return self.numbers[key]
        number = self.numbers[key] = len(self.numbers)
        kind, size = table[key][:2]
        many = -(-size // (3 if kind == 2 else 28))
        keys = list(table[key][3:3 + many])
        self.owned[number] = [key] + keys
        if kind == 1:
            self.model.nodes[number] = [word for block in keys for word in table[block]][:size]
        else:
            rows = [table[block][at:at + 9] for block in keys for at in (0, 9, 18)][:size]
            self.model.nodes[number] = {}
            self.model.nodes[number] = {name_of(row[:8]): self.take(table, row[8]) for row in rows}
        return number

    def alive(self):
        """The nodes that are in the tree, or that handles hold."""
        numbers = set(self.model.order()) | set(self.model.held.values())
        return {number: self.model.nodes[number] for number in sorted(numbers)}

    def contents(self):
        return stored(self.alive(), self.owned)

    def do(self, deed):
        """Returns the answer, the puts and the drops."""
        before = self.contents()
        answer = self.model.do(deed)
        nodes = self.alive()
        given = set()
        for number in list(self.owned):
            wants = 1 + many_blocks(nodes[number]) if number in nodes else 0
            given |= set(self.owned[number][wants:])
            self.owned[number] = self.owned[number][:wants]
            if wants == 0:
                del self.owned[number]
        free = sorted(set(range(self.model.room)) - set(before) | given)
        for number in nodes:
            if number not in self.owned:
                self.owned[number] = [free.pop(0)]
        for number, node in nodes.items():
            while len(self.owned[number]) < 1 + many_blocks(node):
                self.owned[number].append(free.pop(0))
        after = self.contents()
        puts = tuple((key, after[key]) for key in sorted(after) if before.get(key) != after[key])
        return answer, puts, tuple(sorted(set(before) - set(after)))

    def copied(self):
        return copy.deepcopy(self)
