"""A tree in memory with its handles, which counts the blocks that it needs."""

from trailkeep.nodes import nodes_from

MOST_HANDLES = 8


class Tree:
    """The nodes below a root, the files that its handles hold, and the room for them."""

    def __init__(self, room, root):
        self.room = room
        self.root = root
        self.held = {}
        # The nodes whose blocks the last deed may have changed, or that it gave up.
        self.touched = {}
        self.used = sum([node.needs() for node in nodes_from(root)])

    def has(self, node):
        """Whether the node is still in the tree."""
        return node == self.root or node.is_kept()

    def has_room(self, more):
        """Whether the tree may need so many more blocks."""
        return self.used + more <= self.room

    def entry_cost(self, folder, node):
        """How many more blocks the tree would need with one more entry, for the node, in the folder."""
        return folder.growth(1) if node.is_kept() else folder.growth(1) + node.needs()

    def enter(self, folder, name, node):
        """Adds an entry to the folder."""
        self.used += self.entry_cost(folder, node)
        folder.entries[name] = node
        node.links += 1
        self._touch(folder, node)

    def strike(self, folder, name):
        """Removes an entry of the folder, and its node if nothing else keeps it."""
        node = folder.entries[name]
        self.used += folder.growth(-1)
        del folder.entries[name]
        node.links -= 1
        self._leave(node)
        self._touch(folder, node)

    def rewrite(self, file, words):
        """Gives the file other words."""
        self.used += file.growth(len(words))
        file.words = words
        self._touch(file)

    def handles(self):
        """The handles that are in use, ascending."""
        return tuple(sorted(self.held))

    def least_handle(self):
        """The least handle that is not in use, or None."""
        for handle in range(MOST_HANDLES):
            if handle not in self.held:
                return handle
        return None

    def hold(self, handle, file):
        self.held[handle] = file
        file.holders += 1

    def let_go(self, handle):
        """Closes the handle, and gives up its file if nothing else keeps it."""
        file = self.held[handle]
        del self.held[handle]
        file.holders -= 1
        self._leave(file)
        self._touch(file)

    def _leave(self, node):
        if not node.is_kept():
            self.used -= node.needs()

    def _touch(self, *nodes):
        for node in nodes:
            self.touched[node] = True
