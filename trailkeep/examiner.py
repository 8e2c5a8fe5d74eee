"""The examiner: tells of keyed blocks which tree they bear, or what is wrong first."""

from trailkeep.errors import BadKeyed, BadPicture, Broken
from trailkeep.groups import MOST_KEY, is_content
from trailkeep.kinds import are_ascending, is_integer, is_within
from trailkeep.nodes import nodes_from
from trailkeep.pictures import root_of
from trailkeep.plain import is_picture
from trailkeep.store import node_contents
from trailkeep.walk import Walk


def examine(blocks):
    """The certificate for the keyed blocks."""
    walk = _walk_of(blocks)
    if walk.wrong is not None:
        return ("wrong",) + walk.wrong
    return ("tree", walk.owners(), walk.left())


def examine_holds(blocks, thing):
    """Whether the thing is the certificate for the keyed blocks."""
    return _is_same(thing, examine(blocks))


def tree_of(blocks):
    """The picture of the tree that the keyed blocks bear."""
    walk = _walk_of(blocks)
    if walk.wrong is not None:
        raise Broken(walk.wrong[0])
    return walk.picture()


def blocks_of(picture):
    """Keyed blocks that bear a tree with the picture: the inodes have the first keys, in the order of the nodes."""
    if not is_picture(picture):
        raise BadPicture(picture)
    nodes = nodes_from(root_of(picture))
    if sum([node.needs() for node in nodes]) > MOST_KEY + 1:
        raise BadPicture(picture)
    owned = {}
    end = len(nodes)
    for number, node in enumerate(nodes):
        start = end
        end += node.needs() - 1
        owned[node] = (number,) + tuple(range(start, end))
    contents = {}
    for node in nodes:
        for key, content in zip(owned[node], node_contents(node, owned)):
            contents[key] = content
    return tuple([(key, contents[key]) for key in sorted(contents)])


def _walk_of(blocks):
    if not _are_keyed(blocks):
        raise BadKeyed(blocks)
    return Walk({key: content for key, content in blocks})


def _are_keyed(thing):
    """Whether the thing is keyed blocks."""
    if not isinstance(thing, tuple) or not all([_is_pair(part) for part in thing]):
        return False
    return are_ascending([key for key, _ in thing])


def _is_pair(thing):
    return isinstance(thing, tuple) and len(thing) == 2 and is_within(thing[0], 0, MOST_KEY) and is_content(thing[1])


def _is_same(thing, sure):
    """Whether the thing is equal to what is sure, which has only tuples, strings and integers; True is not 1 here."""
    if isinstance(sure, tuple):
        if not isinstance(thing, tuple) or len(thing) != len(sure):
            return False
        return all([_is_same(part, other) for part, other in zip(thing, sure)])
    return thing == sure and is_integer(thing) == is_integer(sure)
