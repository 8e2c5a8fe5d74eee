"""What several tests need: strange values, bent values, and checks that nothing has changed."""

from trailkeep.disk import Disk
from trailkeep.errors import PowerCut, TrailError
from trailkeep.plain import Plain
from trailkeep.roots import made
from trailkeep.trail import Trail

# Values of many kinds. A test leaves out those that are right where it uses them.
STRANGE = (
    None, True, False, -1, 10 ** 9 + 1, 10 ** 40 - 1, 1 - 10 ** 40, "", "a", "A", "0", "force", "x" * 200,
    [], [0], ["force"], {}, {"a": 1}, {0: ()}, (None,), (True,), ("",), ([],), ({},), (), ((),),
    ((((((((),),),),),),),),
    ("force", 0), (["force"],), (("force",),), ({"force": 1},), ("nothing",), (0, "force"), [("folder", ())],
    (Disk(6, 4),), Disk(6, 4), (Plain(1),), Plain(1), PowerCut(), ((0,) * 32,), (0,) * 3000,
    # What the package returns, and where it is not asked for.
    made(6, 4), Trail(made(6, 4)), (Trail(made(6, 4)),), ("torn",), ("block", 0), ("group", 7, 5, 1, (3,), (4,)),
    ("root", 1, 0, 0, 1, 0, (None,) * 6), ("form",), ("broken", 0), ((0, 0, 2),), ((3, 3),), (9,) * 28, ((3, (9,) * 28),),
    ((True, (9,) * 28),), ((3, [9] * 28),), ("closed", "current", "beyond", "free", "free", "free"),
)


def bent(thing):
    """Copies of the thing with one part, at any depth, replaced by one of another kind."""
    found = [None]
    if isinstance(thing, int):
        found.append(str(thing))
        if thing in (0, 1):
            found.append(bool(thing))
    elif isinstance(thing, str):
        found.extend([(thing,), 0, [thing], {thing: 0}])
    else:
        found.extend([list(thing), dict.fromkeys(range(len(thing))), "tuple"])
        for at, part in enumerate(thing):
            found.extend([thing[:at] + (other,) + thing[at + 1:] for other in bent(part)])
    return found


def caught(call, *parts, **named):
    """The error of the package that the call raises, or None."""
    try:
        call(*parts, **named)
    except TrailError as error:
        return error
    return None


class Watched(Disk):
    """A disk that notes what is written, and each force."""

    def __init__(self, segments, blocks):
        Disk.__init__(self, segments, blocks)
        self.noted = []

    def write(self, place, block):
        Disk.write(self, place, block)
        self.noted.append((place, block))

    def force(self):
        Disk.force(self)
        self.noted.append("force")

    def told(self):
        """What was done since this was asked the last time."""
        noted, self.noted = self.noted, []
        return noted


def watched(disk):
    """A disk of its own with the same blocks and waiting writes, which notes what is done."""
    other = Watched(*disk.sizes()[:2])
    for place, block in enumerate(disk.standing()):
        other.write(place, block)
    other.force()
    for place, block in disk.waiting():
        other.write(place, block)
    other.told()
    return other


def blocks_of(disk):
    """All blocks as they are read."""
    return [disk.read(place) for place in range(disk.many())]


def content(word):
    return (word,) * 28


def pairs(*keys, word=5):
    """Puts for the keys, each with a content of its own."""
    return tuple((key, (key,) + (word,) * 27) for key in keys)


def trail_state(trail):
    """All that a trail tells, except for the contents."""
    places = tuple(trail.place_of(key) for key in trail.living())
    return (trail.living(), trail.head(), trail.beyond(), trail.last(), trail.next_number(), trail.uses(),
            trail.states(), places)


def state_of(tree):
    return tree.picture(), tree.needs(), tree.handles()


def disk_state(disk):
    return disk.sizes(), disk.many(), disk.standing(), disk.waiting()


def tree_after(*deeds, room=10 ** 6):
    """A tree on which the deeds were done."""
    tree = Plain(room)
    for deed in deeds:
        answer = tree.do(deed)
        assert answer[0] == "done", (deed, answer)
    return tree


def file_of(path, size):
    """Deeds that make a file with this size, and the words 0, 1, 2 and so on."""
    words = tuple(range(size))
    deeds = [("make", path)]
    deeds.extend([("write", path, at, words[at:at + 56]) for at in range(0, size, 56)])
    return deeds


def names(many):
    return [chr(ord("a") + at) for at in range(many)]


def folder_of(path, many):
    """Deeds that make a folder with so many empty files in it."""
    return [("folder", path)] + [("make", path + (name,)) for name in names(many)]
