"""Keyed blocks that bear a tree, and such as bear none, with what is wrong with them."""

from keyed import inode, keyed_under, leading_to, word_blocks
from trailkeep.roots import made
from trailkeep.trail import Trail

MOST = 10 ** 9
PICTURE = (
    ("folder", (("a", 1), ("b", 2), ("c", 3))),
    ("folder", (("x", 2), ("y", 4))),
    ("file", tuple(range(30))),
    ("folder", ()),
    ("file", ()),
)
# The inodes are 0, 7, 3, 5 and 9; the root has the block 2, the folder 7 the block 4, the file 3 the blocks 8 and 1.
RIGHT = keyed_under(PICTURE, (0, 7, 3, 5, 9, 2, 4, 8, 1))
EMPTY_TREE = ((0, inode(2, 0, 1, ())),)


def changed(blocks, **contents):
    """The blocks with other contents, which are given as k3=content; None for no such block."""
    table = dict(blocks)
    for word, content in contents.items():
        table[int(word[1:])] = content
    return tuple(sorted((key, content) for key, content in table.items() if content is not None))


def with_word(blocks, key, at, word):
    content = dict(blocks)[key]
    return changed(blocks, **{f"k{key}": content[:at] + (word,) + content[at + 1:]})


# (kind, key, blocks)
WRONG = (
    ("inode", 0, ()),
    ("inode", 0, RIGHT[1:]),
    ("inode", 0, changed(RIGHT, k0=(0,) * 28)),
    ("inode", 0, changed(RIGHT, k0=inode(3, 0, 1, ()))),
    ("inode", 0, with_word(RIGHT, 0, 2, 2)),
    ("inode", 0, with_word(RIGHT, 0, 1, 13)),
    ("inode", 0, with_word(RIGHT, 0, 4, 1)),
    ("inode", 0, ((0, inode(1, 0, 0, ())),)),
    ("inode", 0, ((0, inode(1, 0, 1, ())),)),
    ("inode", 0, changed(RIGHT, k0=inode(1, 1, 1, (2,)))),
    ("inode", 7, changed(RIGHT, k7=None)),
    ("inode", 3, changed(RIGHT, k3=None)),
    ("inode", 9, changed(RIGHT, k9=None)),
    ("inode", 7, with_word(RIGHT, 7, 0, 3)),
    ("inode", 7, with_word(RIGHT, 7, 2, 0)),
    ("inode", 5, with_word(RIGHT, 5, 27, 1)),
    ("inode", 3, with_word(RIGHT, 3, 1, 337)),
    ("inode", 9, with_word(RIGHT, 9, 3, 4)),
    ("inode", MOST, with_word(RIGHT, 2, 8, MOST)),
    ("inode", 828, with_word(RIGHT, 2, 8, 828)),
    ("inode", 6, with_word(RIGHT, 4, 17, 6)),
    ("lacking", 2, changed(RIGHT, k2=None)),
    ("lacking", 4, changed(RIGHT, k4=None)),
    ("lacking", 8, changed(RIGHT, k8=None)),
    ("lacking", 1, changed(RIGHT, k1=None)),
    ("lacking", MOST, with_word(RIGHT, 0, 3, MOST)),
    ("lacking", 828, with_word(RIGHT, 3, 4, 828)),
    ("lacking", 6, with_word(RIGHT, 7, 3, 6)),
    ("twice", 0, with_word(RIGHT, 0, 3, 0)),
    ("twice", 0, with_word(RIGHT, 7, 3, 0)),
    ("twice", 0, with_word(RIGHT, 3, 4, 0)),
    ("twice", 0, with_word(RIGHT, 2, 8, 0)),
    ("twice", 0, with_word(RIGHT, 4, 17, 0)),
    ("twice", 8, with_word(RIGHT, 3, 4, 8)),
    ("twice", 7, with_word(RIGHT, 7, 3, 7)),
    ("twice", 3, with_word(RIGHT, 3, 3, 3)),
    ("twice", 2, with_word(RIGHT, 7, 3, 2)),
    ("twice", 7, with_word(RIGHT, 3, 3, 7)),
    ("twice", 5, with_word(RIGHT, 3, 4, 5)),
    ("twice", 9, with_word(RIGHT, 3, 4, 9)),
    ("twice", 3, with_word(RIGHT, 7, 3, 3)),
    ("twice", 2, with_word(RIGHT, 2, 8, 2)),
    ("twice", 4, with_word(RIGHT, 4, 8, 4)),
    ("twice", 2, with_word(RIGHT, 4, 17, 2)),
    ("twice", 7, with_word(RIGHT, 2, 26, 7)),
    ("twice", 5, with_word(RIGHT, 4, 17, 5)),
    ("twice", 7, with_word(RIGHT, 4, 17, 7)),
    ("block", 0, with_word(RIGHT, 2, 0, 27)),
    ("block", 0, with_word(RIGHT, 2, 0, 0)),
    ("block", 0, with_word(RIGHT, 2, 9, 1)),
    ("block", 0, with_word(RIGHT, 2, 27, 1)),
    ("block", 0, with_word(RIGHT, 0, 1, 2)),
    ("block", 7, with_word(RIGHT, 4, 0, 26)),
    ("block", 7, with_word(RIGHT, 4, 18, 1)),
    ("block", 7, with_word(RIGHT, 7, 1, 3)),
    ("block", 3, with_word(RIGHT, 1, 2, 1)),
    ("block", 3, with_word(RIGHT, 1, 27, MOST)),
    ("block", 3, with_word(RIGHT, 3, 1, 29)),
    ("block", 0, changed(RIGHT, k2=leading_to(("b", 3), ("a", 7), ("c", 5)))),
    ("links", 3, with_word(RIGHT, 3, 2, 1)),
    ("links", 3, with_word(RIGHT, 3, 2, 3)),
    ("links", 3, with_word(RIGHT, 3, 2, 0)),
    ("links", 3, with_word(RIGHT, 3, 2, MOST)),
    ("links", 9, with_word(RIGHT, 9, 2, 0)),
    ("links", 9, with_word(RIGHT, 9, 2, 2)),
    ("links", 3, with_word(RIGHT, 4, 8, 9)),
    # Several things are wrong: the first one on the walk is told.
    ("lacking", 2, changed(RIGHT, k2=None, k7=None, k9=None, k1=None)),
    ("twice", 0, with_word(with_word(RIGHT, 0, 3, 0), 2, 0, 27)),
    ("block", 0, changed(with_word(RIGHT, 2, 9, 1), k7=None)),
    ("inode", 7, changed(RIGHT, k7=None, k3=None)),
    ("inode", 5, changed(RIGHT, k5=None, k4=None, k1=None)),
    ("lacking", 4, changed(RIGHT, k4=None, k8=None)),
    ("twice", 8, with_word(with_word(RIGHT, 3, 4, 8), 1, 27, 1)),
    ("lacking", 8, changed(with_word(RIGHT, 3, 4, 3), k8=None)),
    ("twice", 3, changed(with_word(RIGHT, 3, 3, 3), k1=None)),
    ("inode", 9, changed(with_word(RIGHT, 3, 2, 1), k9=None)),
    ("block", 3, with_word(with_word(RIGHT, 3, 2, 1), 1, 27, 1)),
    ("links", 3, with_word(with_word(RIGHT, 3, 2, 5), 9, 2, 5)),
    ("twice", 0, with_word(with_word(RIGHT, 4, 8, 0), 4, 17, 6)),
    ("inode", 6, with_word(with_word(RIGHT, 4, 8, 6), 4, 17, 0)),
    # The words of a file where those of a folder should be: some of them tell an entry, and others do not.
    ("twice", 0, ((0, inode(2, 1, 1, (1,))), (1, word_blocks((5,))[0]))),
    ("inode", 1, ((0, inode(2, 1, 1, (2,))), (2, word_blocks((5,) + (0,) * 7 + (1,))[0]))),
    ("block", 0, ((0, inode(2, 1, 1, (1,))), (1, word_blocks((27,))[0]))),
    ("block", 1, ((0, inode(2, 1, 1, (2,))), (1, inode(1, 1, 1, (3,))), (2, leading_to(("a", 1))), (3, (1, 1) + (0,) * 26))),
)


def disk_bearing(blocks, size=(6, 12)):
    """A disk on which a trail has put the keyed blocks."""
    trail = Trail(made(*size))
    for at in range(0, len(blocks), 9):
        trail.put(tuple(blocks[at:at + 9]), ())
    trail.force()
    return trail.disk()
