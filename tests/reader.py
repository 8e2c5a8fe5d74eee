"""Tells a second time, in another way, what blocks mean, and what a trail has to do on them.

Everything here works on a plain list of blocks; nothing of the package is used. A trail is told without any memory: after
each write everything is worked out anew from the blocks, so that a trail and a mounting can be compared at any moment.
"""

BLANK = (0,) * 32


class Shape:
    """The numbers that follow from S and K."""

    def __init__(self, segments, blocks):
        self.segments, self.blocks = segments, blocks
        self.keys = (segments - 4) * (blocks - 1)
        self.area = -(-(self.keys + 4) // 28)
        self.start = 2 * self.area
        self.many = self.start + segments * blocks

    def place(self, segment, offset):
        return self.start + segment * self.blocks + offset

    def segment(self, place):
        return (place - self.start) // self.blocks


def summary(number, ahead, beyond, puts, drops):
    words = [0] * 32
    words[:6] = [number, 1, ahead, beyond, len(puts), len(drops)]
    words[6:6 + len(puts)] = puts
    words[6 + len(puts):6 + len(puts) + len(drops)] = drops
    words[31] = number
    return tuple(words)


def data(number, key, content):
    return (number, 2, key, *content, number)


def group_blocks(number, ahead, beyond, pairs, drops):
    head = summary(number, ahead, beyond, [key for key, _ in pairs], list(drops))
    return [head] + [data(number, key, content) for key, content in pairs]


def root_blocks(shape, number, segment, offset, beyond, last, places):
    """places has an item for each key, None for none."""
    words = [segment, offset, beyond, last] + [0 if place is None else place + 1 for place in places]
    words += [0] * (28 * shape.area - len(words))
    return [(number, 3, at, *words[28 * at:28 * at + 28], number) for at in range(shape.area)]


def is_rising(words, least, most):
    return list(words) == sorted(set(words)) and all(least <= word <= most for word in words)


def judged_group(shape, blocks, segment, offset):
    first = blocks[shape.place(segment, offset)]
    if first[0] != first[31] or first[0] == 0:
        return ("torn",)
    if first[1] != 1:
        return ("kind",)
    number, _, ahead, beyond, many, gone = first[:6]
    if beyond not in range(shape.segments) or many + gone not in range(1, 25) or many > shape.blocks - offset - 1:
        return ("form",)
    keys = first[6:6 + many + gone]
    puts, drops = keys[:many], keys[many:]
    if not is_rising(puts, 0, shape.keys - 1) or not is_rising(drops, 0, shape.keys - 1) or set(puts) & set(drops):
        return ("form",)
    if first != summary(number, ahead, beyond, puts, drops):
        return ("form",)
    for at in range(many):
        block = blocks[shape.place(segment, offset) + 1 + at]
        if block != data(number, puts[at], block[3:31]):
            return ("block", at)
    return ("group", number, ahead, beyond, puts, drops)


def judged_root(shape, blocks, area):
    there = blocks[shape.area * area:shape.area * (area + 1)]
    number = there[0][0]
    for at, block in enumerate(there):
        if [block[0], block[31]] != [number] * 2 or number == 0 or block[1] != 3 or block[2] != at:
            return ("broken", at)
    words = [word for block in there for word in block[3:31]]
    places = [word - 1 if word else None for word in words[4:4 + shape.keys]]
    right = words[0] < shape.segments and words[1] <= shape.blocks and words[2] < shape.segments
    right = right and all(place is None or shape.start <= place < shape.many for place in places)
    if not right or set(words[4 + shape.keys:]) - {0}:
        return ("form",)
    return ("root", number, *words[:4], tuple(places))


def newer(shape, blocks):
    found = [(-root[1], area) for area in (0, 1) for root in [judged_root(shape, blocks, area)] if root[0] == "root"]
    return min(found)[1] if found else None


class Reading:
    """What blocks tell from their newer root to the end of the road, or behind its first so many groups."""

    def __init__(self, shape, blocks, stops=10 ** 9):
        self.area = newer(shape, blocks)
        _, self.root, segment, offset, self.beyond, self.last, places = judged_root(shape, blocks, self.area)
        self.head = (segment, offset)
        self.places = {key: place for key, place in enumerate(places) if place is not None}
        self.rooted = {shape.segment(place) for place in self.places.values()}
        self.passed = {segment}
        self.road = []
        while len(self.road) < stops:
            stops_here = [self.head] if self.head[1] < shape.blocks else []
            for at in stops_here + [(self.beyond, 0)]:
                group = judged_group(shape, blocks, *at)
                if group[0] == "group" and group[2] == self.last < group[1]:
                    break
            else:
                break
            self.road.append((*at, group[1]))
            for number, key in enumerate(group[4], 1):
                self.places[key] = shape.place(*at) + number
            for key in group[5]:
                self.places.pop(key, None)
            self.head, self.beyond, self.last = (at[0], at[1] + 1 + len(group[4])), group[3], group[1]
            self.passed.add(at[0])
        self.top = max(max(block[0], block[31]) for block in blocks)
        self.meaning = tuple((key, blocks[self.places[key]][3:31]) for key in sorted(self.places))


class Trailing:
    """What a trail on these blocks has to write and to force, call by call.

    Each call returns its answer and the list of what is done: pairs (place, block), and "force".
    """

    def __init__(self, segments, blocks, standing):
        self.shape = Shape(segments, blocks)
        self.blocks = list(standing)
        self.forgotten = set()
        # What was read last, as long as nothing was written since then.
        self.known = None

    def copied(self):
        other = Trailing(self.shape.segments, self.shape.blocks, self.blocks)
        other.forgotten = set(self.forgotten)
        return other

    def told(self):
        """(living, head, beyond, last, next number, uses, states, places)."""
        now = self.now()
        uses = [0] * self.shape.segments
        for place in now.places.values():
            uses[self.shape.segment(place)] += 1
        return (tuple(sorted(now.places)), now.head, now.beyond, now.last, now.top + 1, tuple(uses),
                tuple(self.states(now)), tuple(now.places[key] for key in sorted(now.places)))

    def now(self):
        if self.known is None:
            self.known = Reading(self.shape, self.blocks)
        for key in self.forgotten:
            self.known.places.pop(key, None)
        return self.known

    def states(self, now):
        found = []
        for segment in range(self.shape.segments):
            if segment == now.head[0]:
                found.append("current")
            elif segment == now.beyond:
                found.append("beyond")
            else:
                found.append("closed" if segment in now.rooted | now.passed else "free")
        return found

    def having(self, state):
        return [segment for segment, found in enumerate(self.states(self.now())) if found == state]

    def contents(self, keys):
        places = self.now().places
        return [(key, self.blocks[places[key]][3:31]) for key in sorted(keys)]

    def keys_of(self, segment):
        """The living keys of the segment, in the order of their places."""
        places = self.now().places
        pairs = sorted((place, key) for key, place in places.items() if self.shape.segment(place) == segment)
        return [key for _, key in pairs]

    def do(self, place, block):
        self.known = None
        self.blocks[place] = block
        return [(place, block)]

    def append(self, pairs, drops, leave):
        """A group, at the head or, if that is to be left, at the beginning of beyond."""
        now = self.now()
        head, beyond = now.head, now.beyond
        if leave:
            head, beyond = (beyond, 0), min(self.having("free"))
        done = []
        start = self.shape.place(*head)
        for at, block in enumerate(group_blocks(now.top + 1, now.last, beyond, pairs, drops)):
            done += self.do(start + at, block)
        self.forgotten -= {key for key, _ in pairs}
        return done

    def too_long(self, pairs):
        return len(pairs) + 1 > self.shape.blocks - self.now().head[1]

    def put(self, pairs, drops):
        done = []
        if self.too_long(pairs) and len(self.having("free")) < 2:
            done = self.pack()
        return None, done + self.append(pairs, drops, self.too_long(pairs))

    def forget(self, keys):
        self.forgotten |= set(keys)
        return None, []

    def force(self):
        return None, ["force"]

    def root(self):
        now = self.now()
        done = ["force"]
        places = [now.places.get(key) for key in range(self.shape.keys)]
        for at, block in enumerate(root_blocks(self.shape, now.top + 1, *now.head, now.beyond, now.last, places)):
            done += self.do(self.shape.area * (1 - now.area) + at, block)
        self.forgotten = set()
        return None, done + ["force"]

    def pack(self):
        done = []
        while len(self.having("free")) < 2:
            done += self.root()[1]
            if len(self.having("free")) < 2:
                taken = []
                closed = [(len(self.keys_of(segment)), segment) for segment in self.having("closed")]
                for use, segment in sorted(closed):
                    if use < self.shape.blocks - 1:
                        taken += self.keys_of(segment)
                done += self.append(self.contents(taken[:self.shape.blocks - 1]), (), True)
                done += self.root()[1]
        return done

    def clean(self, segments):
        keys = sorted(key for segment in segments for key in self.keys_of(segment))
        full = self.shape.blocks - 1
        if keys and len(self.having("free")) - 2 < len(keys) // full:
            return False, []
        done = []
        while keys:
            pairs = self.contents(keys[:full])
            done += self.append(pairs, (), self.too_long(pairs))
            keys = keys[full:]
        return True, done

    def chosen(self, policy, many):
        uses = self.told()[5]
        first = self.shape.start
        ages = [max(block[0] for block in self.blocks[first + at * self.shape.blocks:][:self.shape.blocks])
                for at in range(self.shape.segments)]
        ranks = {"emptiest": uses, "fullest": [-use for use in uses], "oldest": ages, "first": [0] * len(uses)}[policy]
        return tuple(sorted(sorted(self.having("closed"), key=lambda segment: (ranks[segment], segment))[:many])), []
