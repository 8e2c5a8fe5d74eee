"""Disks on which roots and groups are laid by hand."""

from reader import Shape, group_blocks, root_blocks
from support import pairs
from trailkeep.disk import Disk, place_at


def put_root(disk, area, number, head=(0, 0), beyond=1, last=0, **places):
    """A root; the places are given as k3=17."""
    shape = Shape(*disk.sizes()[:2])
    found = [places.get(f"k{key}") for key in range(shape.keys)]
    for at, block in enumerate(root_blocks(shape, number, *head, beyond, last, found)):
        disk.write(area * shape.area + at, block)


def put_group(disk, stop, number, ahead, beyond, puts=(0,), drops=()):
    for at, block in enumerate(group_blocks(number, ahead, beyond, pairs(*puts, word=number), drops)):
        disk.write(place_at(disk, *stop) + at, block)


def disk_with(head=(0, 0), beyond=1, last=0, size=(6, 4)):
    disk = Disk(*size)
    put_root(disk, 0, 1, head, beyond, last)
    return disk


def drawn_disk(draw):
    """A disk with drawn roots, and with groups of which many follow one another."""
    size = draw.choice(((6, 4), (6, 6), (7, 9), (6, 12)))
    shape, disk = Shape(*size), Disk(*size)
    ends = []
    for area in (0, 1):
        places = {f"k{draw.randrange(shape.keys)}": draw.randrange(shape.start, shape.many) for _ in range(4)}
        head = draw.randrange(size[0]), draw.randrange(size[1] + 1)
        ends.append((head, draw.randrange(size[0]), draw.randrange(5)))
        put_root(disk, area, draw.randrange(1, 4), *ends[-1], **places)
    head, beyond, last = draw.choice(ends)
    for _ in range(draw.randrange(14)):
        many = draw.randrange(1, min(4, size[1]))
        keys = draw.sample(range(shape.keys), many + draw.randrange(3))
        stop = head if head[1] + many < size[1] and draw.random() < 0.7 else (beyond, 0)
        number = last + draw.choice((1, 1, 1, 2, 3, 0))
        beyond = draw.randrange(size[0])
        if number:
            put_group(disk, stop, number, draw.choice((last,) * 9 + (last + 1,)), beyond, sorted(keys[:many]),
                      sorted(keys[many:]))
        head, last = (stop[0], stop[1] + many + 1), number
    return disk, shape
