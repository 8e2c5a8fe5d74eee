"""Lives of disks: days of deeds, each of which ends with a cut."""

from trailkeep.disk import is_fuse, is_keep
from trailkeep.errors import BadLife, PowerCut
from trailkeep.plain import is_deed
from trailkeep.system import System


def is_life(thing):
    """Whether the thing is a life: a tuple of days."""
    return isinstance(thing, tuple) and all([_is_day(part) for part in thing])


def _is_day(thing):
    if not isinstance(thing, tuple) or len(thing) != 3:
        return False
    deeds, fuse, keep = thing
    if not isinstance(deeds, tuple) or not all([is_deed(part) for part in deeds]):
        return False
    return (fuse is None or is_fuse(fuse)) and is_keep(keep)


def lived(disk, life):
    """Makes the disk live the days; returns what came of each: the answers, the picture and what surely stood."""
    system = System(disk)
    if not is_life(life):
        raise BadLife(life)
    days = []
    for deeds, fuse, keep in life:
        if fuse is not None:
            disk.fuse(fuse)
        answers = _answers(system, deeds)
        stood = system.standing()
        disk.cut(keep)
        # What is mounted in the evening serves for the next morning, too: mounting writes nothing.
        system = System(disk)
        days.append((answers, system.picture(), stood))
    return tuple(days)


def _answers(system, deeds):
    """The answers to the deeds, until the power fails or all are done."""
    answers = []
    for deed in deeds:
        try:
            answers.append(system.do(deed))
        except PowerCut:
            break
    return tuple(answers)
