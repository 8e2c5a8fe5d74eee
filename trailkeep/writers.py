"""Writers: several scripts of deeds on one tree, woven into one another and with cleaning."""

from trailkeep.errors import BadScripts, BadSystem, BadWeaving
from trailkeep.kinds import MOST_SEGMENTS, are_within
from trailkeep.plain import Plain, is_deed
from trailkeep.system import System

MOST_WRITERS = 4
# The deeds that name a handle, as their first part.
HANDLE_WORDS = ("close", "hwrite", "hcut", "hread", "hstat")


def are_scripts(thing):
    """Whether the thing is scripts: a tuple of tuples of deeds."""
    return isinstance(thing, tuple) and 1 <= len(thing) <= MOST_WRITERS and all([_is_script(part) for part in thing])


def _is_script(thing):
    return isinstance(thing, tuple) and all([is_deed(part) for part in thing])


def is_weaving(thing):
    """Whether the thing is a weaving."""
    return are_within(thing, -MOST_SEGMENTS, MOST_WRITERS - 1)


def woven(system, scripts, weaving):
    """Does the deeds of the scripts in the order of the weaving; returns the answers of each writer."""
    if not isinstance(system, System) and not isinstance(system, Plain):
        raise BadSystem(system)
    if not are_scripts(scripts):
        raise BadScripts(scripts)
    if not is_weaving(weaving):
        raise BadWeaving(weaving)
    writers = [Writer(system, script) for script in scripts]
    for number in weaving:
        if number < 0:
            system.do(("clean", (-1 - number,)))
        elif number < len(writers):
            writers[number].go_on()
    return tuple([tuple(writer.answers) for writer in writers])


class Writer:
    """One who does the deeds of a script, with handles that are counted for this script alone."""

    def __init__(self, system, script):
        self._system = system
        self._script = script
        # The handles as the system tells them, in the order in which they were given; None for closed ones.
        self._given = []
        self.answers = []

    def go_on(self):
        """Does the next deed, if there is one."""
        at = len(self.answers)
        if at < len(self._script):
            self.answers.append(self._answer(self._script[at]))

    def _answer(self, deed):
        if deed[0] in HANDLE_WORDS:
            return self._answer_handle(deed)
        answer = self._system.do(deed)
        if deed[0] == "open" and answer[0] == "done":
            self._given.append(answer[1])
        return answer

    def _answer_handle(self, deed):
        number = deed[1]
        handle = self._given[number] if number < len(self._given) else None
        if handle is None:
            return ("refused", "no handle")
        if deed[0] == "close":
            self._given[number] = None
        return self._system.do((deed[0], handle) + deed[2:])
