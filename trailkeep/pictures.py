"""Pictures of trees, and the trees that have them."""

from trailkeep.nodes import File, Folder, nodes_from


def picture_of(root):
    """The picture of the tree with this root."""
    nodes = nodes_from(root)
    numbers = {node: number for number, node in enumerate(nodes)}
    return tuple([_item_of(node, numbers) for node in nodes])


def _item_of(node, numbers):
    if isinstance(node, File):
        return ("file", node.words)
    return ("folder", tuple([(name, numbers[node.entries[name]]) for name in sorted(node.entries)]))


def root_of(picture):
    """The root of a new tree that has the picture."""
    nodes = [Folder() if kind == "folder" else File(parts) for kind, parts in picture]
    for number, (kind, parts) in enumerate(picture):
        if kind == "folder":
            _enter_all(nodes[number], parts, nodes)
    return nodes[0]


def _enter_all(folder, entries, nodes):
    for name, number in entries:
        folder.entries[name] = nodes[number]
        nodes[number].links += 1
