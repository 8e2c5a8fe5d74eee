"""The trail: keys and their contents, which are put group by group into segments that are free."""

from trailkeep.disk import place_at, segment_of
from trailkeep.errors import BadDrops, BadKey, BadNumber, BadPolicy, BadPuts, BadSegments
from trailkeep.groups import MOST_CHANGES, content_of, data_block, is_content, summary_block
from trailkeep.kinds import are_ascending, are_within, is_integer, is_within
from trailkeep.meaning import top_number
from trailkeep.roads import whole_road
from trailkeep.roots import root_words, write_root

POLICIES = ("emptiest", "fullest", "oldest", "first")
# A trail keeps at least so many segments free before it goes on to another segment.
ENOUGH_FREE = 2


class Trail:
    """A trail that is mounted on the disk."""

    def __init__(self, disk):
        self._road = whole_road(disk)
        self._disk = disk
        self._next = top_number(disk) + 1
        segments, blocks, keys, _ = disk.sizes()
        self._segments = segments
        self._blocks = blocks
        self._keys = keys
        # How many keys fill a whole segment, beside the summary of their group.
        self._most_puts = blocks - 1

    def disk(self):
        return self._disk

    def head(self):
        return self._road.head

    def beyond(self):
        return self._road.beyond

    def last(self):
        return self._road.last

    def next_number(self):
        return self._next

    def living(self):
        return tuple(sorted(self._road.places))

    def place_of(self, key):
        if not self._is_living(key):
            raise BadKey(key)
        return self._road.places[key]

    def read(self, key):
        return content_of(self._disk.read(self.place_of(key)))

    def free_keys(self, many):
        if not is_integer(many) or many < 0:
            raise BadNumber(many)
        free = [key for key in range(self._keys) if key not in self._road.places]
        return tuple(free[:many]) if many <= len(free) else None

    def put(self, puts, drops):
        """Puts pairs of a key and its content, and drops keys, all in one group."""
        if not self._are_puts(puts):
            raise BadPuts(puts)
        if not self._are_living(drops) or not 1 <= len(puts) + len(drops) <= MOST_CHANGES:
            raise BadDrops(drops)
        if any([key in drops for key, _ in puts]):
            raise BadDrops(drops)
        if not self._fits(puts):
            self._pack()
        self._write(puts, drops)

    def forget(self, keys):
        """Takes keys out of the map, without a group; the next root lacks them."""
        if not self._are_living(keys):
            raise BadDrops(keys)
        self._road.forget(keys)

    def force(self):
        self._disk.force()

    def root(self):
        """Writes where everything is into the area without the newer root."""
        self._disk.force()
        area = 1 - self._road.area
        words = root_words(self._road.head, self._road.beyond, self._road.last, self._road.places, self._keys)
        write_root(self._disk, area, self._next, words)
        self._disk.force()
        self._next += 1
        self._road.begin(area)

    def uses(self):
        return tuple([len(keys) for keys in self._keys_by_segment()])

    def states(self):
        return tuple([self._state(segment) for segment in range(self._segments)])

    def clean(self, segments):
        """Puts what is living in the closed segments anew; returns whether that was done."""
        if not self._are_closed(segments):
            raise BadSegments(segments)
        by_segment = self._keys_by_segment()
        keys = sorted([key for segment in segments for key in by_segment[segment]])
        if keys and len(self._having("free")) < ENOUGH_FREE + len(keys) // self._most_puts:
            return False
        for at in range(0, len(keys), self._most_puts):
            self._write(self._pairs(keys[at:at + self._most_puts]), ())
        return True

    def chosen(self, policy, many):
        """So many closed segments, those that come first by the policy."""
        if policy not in POLICIES:
            raise BadPolicy(policy)
        if not is_integer(many) or many < 0:
            raise BadNumber(many)
        closed = self._having("closed")
        ranks = self._ranks(policy)
        # Sorting leaves what has one rank in the order of its numbers.
        return tuple(sorted(sorted(closed, key=lambda segment: ranks[segment])[:many]))

    def _ranks(self, policy):
        """For each segment a number; by the policy those with the least numbers come first."""
        if policy == "emptiest":
            return self.uses()
        if policy == "fullest":
            return tuple([-use for use in self.uses()])
        if policy == "first":
            return tuple(range(self._segments))
        starts = [place_at(self._disk, segment, 0) for segment in range(self._segments)]
        return tuple([max([self._disk.read(start + at)[0] for at in range(self._blocks)]) for start in starts])

    def _is_living(self, key):
        return is_integer(key) and key in self._road.places

    def _are_living(self, keys):
        return isinstance(keys, tuple) and all([self._is_living(key) for key in keys]) and are_ascending(keys)

    def _are_puts(self, puts):
        if not isinstance(puts, tuple) or len(puts) > self._most_puts:
            return False
        if not all([self._is_put(pair) for pair in puts]):
            return False
        return are_ascending([key for key, _ in puts])

    def _is_put(self, pair):
        if not isinstance(pair, tuple) or len(pair) != 2:
            return False
        return is_within(pair[0], 0, self._keys - 1) and is_content(pair[1])

    def _are_closed(self, segments):
        if not are_within(segments, 0, self._segments - 1) or not are_ascending(segments):
            return False
        return all([self._state(segment) == "closed" for segment in segments])

    def _state(self, segment):
        if segment == self._road.head[0]:
            return "current"
        if segment == self._road.beyond:
            return "beyond"
        return "closed" if segment in self._road.held else "free"

    def _having(self, state):
        """The segments that have the state, ascending."""
        return [segment for segment, found in enumerate(self.states()) if found == state]

    def _is_scarce(self):
        return len(self._having("free")) < ENOUGH_FREE

    def _keys_by_segment(self):
        """For each segment the living keys that are in it, in the order of their places."""
        places = self._road.places
        found = [[] for _ in range(self._segments)]
        for key in sorted(places, key=lambda one: places[one]):
            found[segment_of(self._disk, places[key])].append(key)
        return found

    def _pairs(self, keys):
        """The keys with their present contents, as puts."""
        return tuple([(key, self.read(key)) for key in keys])

    def _fits(self, puts):
        return self._road.head[1] + 1 + len(puts) <= self._blocks

    def _write(self, puts, drops):
        """Writes a group behind the head, or at the beginning of beyond if it does not fit there."""
        if not self._fits(puts):
            self._move_on()
        self._append(puts, drops)

    def _move_on(self):
        """Leaves the current segment for beyond."""
        self._road.move_on(self._having("free")[0])

    def _append(self, puts, drops):
        """Writes a group at the head."""
        segment, offset = self._road.head
        place = place_at(self._disk, segment, offset)
        keys = tuple([key for key, _ in puts])
        number = self._next
        self._disk.write(place, summary_block(number, self._road.last, self._road.beyond, keys, drops))
        for at, (key, content) in enumerate(puts):
            self._disk.write(place + 1 + at, data_block(number, key, content))
        self._next += 1
        self._road.take(number, keys, drops)

    def _pack(self):
        """Frees segments until there are enough of them; does nothing if there are."""
        while self._is_scarce():
            self.root()
            if self._is_scarce():
                puts = self._pairs(self._keys_to_pack())
                self._move_on()
                self._append(puts, ())
                self.root()

    def _keys_to_pack(self):
        """The keys for one whole segment, from the closed segments that have the fewest."""
        by_segment = self._keys_by_segment()
        closed = [by_segment[segment] for segment in self._having("closed")]
        sparse = [keys for keys in closed if len(keys) < self._most_puts]
        # Sorting leaves what has equally many keys in the order of its segments.
        taken = [key for keys in sorted(sparse, key=len) for key in keys]
        return sorted(taken[:self._most_puts])
