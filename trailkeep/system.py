"""The file system: a tree that is kept on a disk, deed by deed."""

from trailkeep.deeds import act
from trailkeep.errors import BadDeed, BadSize, Broken
from trailkeep.inodes import FOLDER, inode_content
from trailkeep.nodes import nodes_from
from trailkeep.pictures import picture_of, root_of
from trailkeep.plain import is_deed
from trailkeep.roots import made
from trailkeep.store import Store
from trailkeep.trail import Trail
from trailkeep.tree import Tree
from trailkeep.walk import ROOT_KEY, Walk

# In smaller segments the blocks that one deed changes would not always fit.
LEAST_BLOCKS_OF_SYSTEM = 12


def formatted(segments, blocks):
    """A new disk with an empty tree on it."""
    disk = made(segments, blocks)
    if blocks < LEAST_BLOCKS_OF_SYSTEM:
        raise BadSize(blocks)
    trail = Trail(disk)
    trail.put(((ROOT_KEY, inode_content(FOLDER, 0, 1, ())),), ())
    trail.force()
    return disk


class System:
    """The tree that a disk bears, mounted for deeds."""

    def __init__(self, disk):
        self._trail = Trail(disk)
        contents = {key: self._trail.read(key) for key in self._trail.living()}
        walk = Walk(contents)
        if walk.wrong is not None:
            raise Broken(walk.wrong[0])
        # Left are blocks of files that were removed while handles held them.
        left = walk.left()
        self._trail.forget(left)
        for key in left:
            del contents[key]
        room = disk.sizes()[2]
        self._tree = Tree(room, root_of(walk.picture()))
        # The nodes of a picture are in the order of the walk.
        owned = {node: walk.keys_of(key) for node, key in zip(nodes_from(self._tree.root), walk.order)}
        self._store = Store(room, owned, contents)
        self._done = 0
        self._standing = 0

    def do(self, deed):
        if not is_deed(deed):
            raise BadDeed(deed)
        answer = act(self._tree, deed)
        puts, drops = self._store.change(self._tree)
        if puts or drops:
            self._trail.put(puts, drops)
        self._sweep(deed)
        # The power may have failed before; then the deed does not count.
        self._done += 1
        if deed[0] == "force" or deed[0] == "root":
            self._standing = self._done
        return answer

    def picture(self):
        return picture_of(self._tree.root)

    def needs(self):
        return self._tree.used

    def handles(self):
        return self._tree.handles()

    def room(self):
        return self._tree.room

    def living(self):
        return tuple(sorted(self._store.contents))

    def done(self):
        """How many deeds it was given."""
        return self._done

    def standing(self):
        """How many of the first of these deeds surely stand."""
        return self._standing

    def _sweep(self, deed):
        """Does the deeds that only concern the disk."""
        if deed[0] == "force":
            self._trail.force()
        elif deed[0] == "root":
            self._trail.root()
        elif deed[0] == "clean":
            for segment in deed[1]:
                self._clean(segment)

    def _clean(self, segment):
        """Cleans the segment if the disk has it and it is closed."""
        states = self._trail.states()
        if segment < len(states) and states[segment] == "closed":
            self._trail.clean((segment,))
