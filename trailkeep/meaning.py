"""What a disk means: the living keys and their contents, by its blocks alone."""

from trailkeep.disk import Disk
from trailkeep.errors import BadDisk
from trailkeep.groups import content_of
from trailkeep.roads import whole_road


def meaning(disk):
    return tuple([(key, content_of(disk.read(place))) for key, place in map_of(disk)])


def road(disk):
    return tuple(whole_road(disk).groups)


def map_of(disk):
    places = whole_road(disk).places
    return tuple([(key, places[key]) for key in sorted(places)])


def top_number(disk):
    if not isinstance(disk, Disk):
        raise BadDisk(disk)
    blocks = [disk.read(place) for place in range(disk.many())]
    return max([max(block[0], block[-1]) for block in blocks])
