"""Trees in keyed blocks: which keys the nodes have, and what each deed puts and drops."""

from trailkeep.folders import folder_blocks
from trailkeep.inodes import FILE, FOLDER, file_blocks, inode_content
from trailkeep.nodes import File


def node_contents(node, owned):
    """The contents of the node's inode and of its blocks; owned has the keys of each node, that of its inode first."""
    blocks = owned[node][1:]
    if isinstance(node, File):
        return (inode_content(FILE, len(node.words), node.links, blocks),) + file_blocks(node.words)
    entries = tuple([(name, owned[node.entries[name]][0]) for name in sorted(node.entries)])
    return (inode_content(FOLDER, len(entries), 1, blocks),) + folder_blocks(entries)


class Store:
    """The keys of a tree: which node has which of them, and what their contents are."""

    def __init__(self, many, owned, contents):
        # How many keys there are, used and free.
        self._many = many
        self._owned = owned
        self.contents = contents

    def change(self, tree):
        """Takes over what the last deed on the tree changed; returns its puts and its drops."""
        given = self._take_back(tree)
        nodes = [node for node in tree.touched if tree.has(node)]
        self._hand_out(nodes, given)
        found = {}
        for node in nodes:
            for key, content in zip(self._owned[node], node_contents(node, self._owned)):
                found[key] = content
        # A key that one node gives up and another one gets may have the very content that it had.
        puts = [(key, found[key]) for key in sorted(found) if self.contents.get(key, None) != found[key]]
        drops = [key for key in sorted(given) if key not in found]
        for key in drops:
            del self.contents[key]
        for key, content in puts:
            self.contents[key] = content
        return tuple(puts), tuple(drops)

    def _take_back(self, tree):
        """Leaves the touched nodes no more keys than they need; returns the others."""
        given = []
        for node in tree.touched:
            keys = self._owned.get(node, ())
            many = node.needs() if tree.has(node) else 0
            given.extend(keys[many:])
            self._owned[node] = keys[:many]
            if many == 0:
                del self._owned[node]
        return given

    def _hand_out(self, nodes, given):
        """Gives the nodes the keys that they lack: the new node is the first one, then comes the one that grows."""
        lacking = [node.needs() - len(self._owned[node]) for node in nodes]
        free = self._least_free(sum(lacking), given)
        new = [node for node in nodes if self._owned[node] == ()]
        old = [node for node in nodes if self._owned[node] != ()]
        for node in new + old:
            many = node.needs() - len(self._owned[node])
            self._owned[node] = self._owned[node] + tuple(free[:many])
            free = free[many:]

    def _least_free(self, many, given):
        """The least so many keys that are free or given up."""
        free = []
        for key in range(self._many):
            if len(free) == many:
                break
            if key not in self.contents or key in given:
                free.append(key)
        return free
