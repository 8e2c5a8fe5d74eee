"""The errors of the package: each one tells by its class what is wrong, and by its attributes where."""


class TrailError(Exception):
    """The base class of all errors of the package."""


class BadSize(TrailError):
    """The thing is no number of segments, or of blocks in each of them."""

    def __init__(self, thing):
        self.thing = thing


class BadPlace(TrailError):
    """The thing is no place of a block on the disk."""

    def __init__(self, thing):
        self.thing = thing


class BadBlock(TrailError):
    """The thing is no block."""

    def __init__(self, thing):
        self.thing = thing


class PowerCut(TrailError):
    """The power failed: the fuse of the disk has burnt down."""

    # Without this, arguments would be taken and lost.
    def __init__(self):
        pass


class BadCut(TrailError):
    """The thing is no keep."""

    def __init__(self, thing):
        self.thing = thing


class BadNumber(TrailError):
    """The thing is no number of the kind that is asked for."""

    def __init__(self, thing):
        self.thing = thing


class BadDisk(TrailError):
    """The thing is no disk."""

    def __init__(self, thing):
        self.thing = thing


class BadSegment(TrailError):
    """The thing is no number of a segment of the disk."""

    def __init__(self, thing):
        self.thing = thing


class BadOffset(TrailError):
    """The thing is no offset of a block in a segment."""

    def __init__(self, thing):
        self.thing = thing


class BadKey(TrailError):
    """The thing is no key of the kind that is asked for."""

    def __init__(self, thing):
        self.thing = thing


class BadContent(TrailError):
    """The thing is no content."""

    def __init__(self, thing):
        self.thing = thing


class BadArea(TrailError):
    """The thing is no number of a root area."""

    def __init__(self, thing):
        self.thing = thing


class NoRoot(TrailError):
    """No area of the disk has a root."""

    # Without this, arguments would be taken and lost.
    def __init__(self):
        pass


class BadPuts(TrailError):
    """The thing is no tuple of puts."""

    def __init__(self, thing):
        self.thing = thing


class BadDrops(TrailError):
    """The thing is no tuple of drops."""

    def __init__(self, thing):
        self.thing = thing


class BadSegments(TrailError):
    """The thing is no tuple of closed segments."""

    def __init__(self, thing):
        self.thing = thing


class BadPolicy(TrailError):
    """The thing is no word for a policy."""

    def __init__(self, thing):
        self.thing = thing


class BadRoom(TrailError):
    """The thing is no room of a tree."""

    def __init__(self, thing):
        self.thing = thing


class BadDeed(TrailError):
    """The thing is no deed."""

    def __init__(self, thing):
        self.thing = thing


class BadPicture(TrailError):
    """The thing is no picture of a tree, or of one that has room."""

    def __init__(self, thing):
        self.thing = thing


class BadInode(TrailError):
    """The thing is no right inode."""

    def __init__(self, thing):
        self.thing = thing


class BadWords(TrailError):
    """The thing is not the words of a file."""

    def __init__(self, thing):
        self.thing = thing


class BadEntries(TrailError):
    """The thing is not the entries of a folder."""

    def __init__(self, thing):
        self.thing = thing


class BadKeyed(TrailError):
    """The thing is no tuple of keyed blocks."""

    def __init__(self, thing):
        self.thing = thing


class Broken(TrailError):
    """Keyed blocks bear no tree; kind tells what is wrong with them."""

    def __init__(self, kind):
        self.kind = kind


class BadSystem(TrailError):
    """The thing is neither a system nor a plain tree."""

    def __init__(self, thing):
        self.thing = thing


class BadScripts(TrailError):
    """The thing is no tuple of scripts."""

    def __init__(self, thing):
        self.thing = thing


class BadWeaving(TrailError):
    """The thing is no weaving."""

    def __init__(self, thing):
        self.thing = thing


class BadLife(TrailError):
    """The thing is no life."""

    def __init__(self, thing):
        self.thing = thing


class BadText(TrailError):
    """The text is no text of a disk; at is the number of its first wrong line, or 0."""

    def __init__(self, at):
        self.at = at
