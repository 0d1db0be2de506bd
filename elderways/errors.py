"""The errors of the program: each one directly below a builtin error, with at most one field."""


class ShapeMismatch(ValueError):
    """Houses that must have the same shape, or the same size, do not."""


class InvalidText(ValueError):
    """A line of a text does not have the form of a house, or is not allowed there."""

    def __init__(self, line):
        self.line = line


class InvalidCommand(ValueError):
    """A line of a session is neither a valid house line nor a valid command."""

    def __init__(self, line):
        self.line = line


class NotOlder(ValueError):
    """A passage would slide along one that is not older."""

    def __init__(self, older):
        self.older = older


class NotLoop(ValueError):
    """A slide to repeat runs along a passage whose ends are in different rooms."""

    def __init__(self, older):
        self.older = older


class UnknownPassage(LookupError):
    """No passage has this index."""

    def __init__(self, index):
        self.index = index


class BrokenWalk(LookupError):
    """A step of a walk does not begin in the current room."""

    def __init__(self, step):
        self.step = step


class UnknownNumber(LookupError):
    """No reachable house has this number."""

    def __init__(self, number):
        self.number = number


class InvalidIndex(LookupError):
    """No passage can be inserted at this index."""

    def __init__(self, index):
        self.index = index


class UnknownRevision(LookupError):
    """An editor has no state with this revision."""

    def __init__(self, revision):
        self.revision = revision


class WrongRoom(RuntimeError):
    """The end to slide is not in the room where the older passage begins."""

    def __init__(self, room):
        self.room = room


class PositionUnreachable(RuntimeError):
    """A passage cannot reach the wanted position."""

    def __init__(self, index):
        self.index = index


class TargetUnreachable(RuntimeError):
    """The target has this passage in a position that it cannot reach."""

    def __init__(self, index):
        self.index = index


class NoMatch(RuntimeError):
    """A passage cannot meet its constraint."""

    def __init__(self, index):
        self.index = index


class PassageFixed(RuntimeError):
    """A passage is fixed where it must not be."""

    def __init__(self, index):
        self.index = index


class PassageNotFixed(RuntimeError):
    """A passage is not fixed where it must be."""

    def __init__(self, index):
        self.index = index


class TooMany(OverflowError):
    """There are more houses than a list may hold."""

    def __init__(self, count):
        self.count = count


class EditorFull(OverflowError):
    """An editor holds as many passages as it may."""

    def __init__(self, count):
        self.count = count
