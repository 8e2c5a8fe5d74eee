"""The road of a disk: from its newer root along all groups that follow one another."""

from trailkeep.disk import place_at, segment_of
from trailkeep.errors import NoRoot
from trailkeep.groups import judge_group
from trailkeep.roots import judge_root, newer_root


class Road:
    """What a disk tells from its newer root up to some group, at first up to none."""

    def __init__(self, disk):
        area = newer_root(disk)
        if area is None:
            raise NoRoot()
        _, _, segment, offset, beyond, last, places = judge_root(disk, area)
        self._disk = disk
        self.head = (segment, offset)
        self.beyond = beyond
        self.last = last
        # The place of each living key.
        self.places = {key: place for key, place in enumerate(places) if place is not None}
        self.begin(area)

    def begin(self, area):
        """From here on the root in the area is the newer one, and it tells what the road tells here."""
        self.area = area
        # The segments that the root leads to, and those of the heads since then.
        self.held = {segment_of(self._disk, place): True for place in self.places.values()}
        self.held[self.head[0]] = True
        # The segment, the offset and the number of each group.
        self.groups = []

    def follow(self):
        """Goes along all groups that are there."""
        while self._go_on(self.head) or self._go_on((self.beyond, 0)):
            pass

    def take(self, number, puts, drops):
        """Goes behind the group that stands at the head."""
        segment, offset = self.head
        for at, key in enumerate(puts):
            self.places[key] = place_at(self._disk, segment, offset + 1 + at)
        for key in drops:
            # On a disk from elsewhere a group may drop a key that is not living.
            self.places.pop(key, None)
        self.groups.append((segment, offset, number))
        self.head = (segment, offset + 1 + len(puts))
        self.held[segment] = True
        self.last = number

    def move_on(self, segment):
        """Leaves the current segment for beyond; the segment is beyond from now on."""
        self.head = (self.beyond, 0)
        self.beyond = segment

    def forget(self, keys):
        for key in keys:
            del self.places[key]

    def _go_on(self, stop):
        """Goes behind the group there, and tells whether it is the next one."""
        segment, offset = stop
        if offset == self._disk.sizes()[1]:
            return False
        told = judge_group(self._disk, segment, offset)
        if told[0] != "group":
            return False
        _, number, ahead, beyond, puts, drops = told
        if ahead != self.last or number <= self.last:
            return False
        self.head = stop
        self.beyond = beyond
        self.take(number, puts, drops)
        return True


def whole_road(disk):
    """The road of the disk up to its end."""
    found = Road(disk)
    found.follow()
    return found
