"""A trail, and beside it what the reader tells of the same calls."""

from reader import Reading, Shape, Trailing, judged_group
from support import blocks_of, trail_state, watched
from trailkeep.meaning import map_of, meaning
from trailkeep.roots import made
from trailkeep.trail import Trail


def needed_places(shape, blocks):
    """The places to which the newer root and the road lead."""
    now = Reading(shape, blocks)
    found = set(Reading(shape, blocks, 0).places.values())
    for segment, offset, _ in now.road:
        group = judged_group(shape, blocks, segment, offset)
        found.update(range(shape.place(segment, offset), shape.place(segment, offset) + 1 + len(group[4])))
    return found


class Tandem:
    """Does calls on both, and compares what they return, what they write, and what they tell behind them."""

    def __init__(self, case, disk, careful=False):
        self.case, self.careful = case, careful
        self.disk = watched(disk)
        self.shape = Shape(*disk.sizes()[:2])
        self.mount()

    def mount(self):
        self.trail = Trail(self.disk)
        self.case.assertEqual(self.disk.told(), [])
        self.model = Trailing(self.shape.segments, self.shape.blocks, blocks_of(self.disk))
        # What the keys have to have, by the puts and drops alone.
        self.contents = {key: self.trail.read(key) for key in self.trail.living()}
        self.compare()

    def compare(self):
        case, trail = self.case, self.trail
        case.assertEqual(trail_state(trail), self.model.told())
        case.assertEqual({key: trail.read(key) for key in trail.living()}, self.contents)
        if not self.model.forgotten:
            case.assertEqual(trail_state(Trail(self.disk)), trail_state(trail))
            case.assertEqual(map_of(self.disk), tuple((key, trail.place_of(key)) for key in trail.living()))
            case.assertEqual(meaning(self.disk), tuple(sorted(self.contents.items())))
        case.assertEqual(self.disk.told(), [])

    def do(self, word, *parts):
        """Returns the answer and what was written."""
        before = blocks_of(self.disk)
        answer = getattr(self.trail, word)(*parts)
        noted = self.disk.told()
        expected, done = getattr(self.model, word)(*parts)
        self.case.assertEqual(noted, done)
        self.case.assertIs(answer.__class__, expected.__class__)
        self.case.assertEqual(answer, expected)
        if word == "put":
            self.contents.update(dict(parts[0]))
        for key in parts[1] if word == "put" else parts[0] if word == "forget" else ():
            del self.contents[key]
        self.compare()
        if self.careful:
            self.check_needed(before, noted)
        return answer, noted

    def check_needed(self, blocks, noted):
        """No write went to a block that was needed when it came."""
        for place, block in [pair for pair in noted if pair != "force"]:
            if place >= self.shape.start:
                self.case.assertNotIn(place, needed_places(self.shape, blocks))
            blocks[place] = block

    def after_cut(self, keep):
        """Cuts, and mounts a new trail."""
        self.disk.cut(keep)
        self.mount()

    def closed(self):
        return tuple(at for at, state in enumerate(self.trail.states()) if state == "closed")

    def free(self):
        return self.trail.states().count("free")


def tandem(case, segments=6, blocks=4, careful=True):
    return Tandem(case, made(segments, blocks), careful)
