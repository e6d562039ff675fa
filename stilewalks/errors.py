"""The errors of the package."""


class StileError(Exception):
    """The base class of all errors of the package."""


class BadRow(StileError):
    """A value that should be a row and is none."""

    def __init__(self, thing):
        self.thing = thing


class BadScript(StileError):
    """A value that should be a script and is none."""

    def __init__(self, thing):
        self.thing = thing


class BadRoom(StileError):
    """A value that should be a room and is none."""

    def __init__(self, thing):
        self.thing = thing


class BadPassage(StileError):
    """A pair (room, i) that should be a passage and is none."""

    def __init__(self, thing):
        self.thing = thing


class BadShow(StileError):
    """A value that should be a show and is none."""

    def __init__(self, thing):
        self.thing = thing


class BadHall(StileError):
    """A value that should be a hall and is none."""

    def __init__(self, thing):
        self.thing = thing


class BadSum(StileError):
    """A value that should be a term sum and is none."""

    def __init__(self, thing):
        self.thing = thing


class BadPoint(StileError):
    """A value that should be a point and is none."""

    def __init__(self, thing):
        self.thing = thing


class BadHeights(StileError):
    """A value that should be heights and is none."""

    def __init__(self, thing):
        self.thing = thing


class BadBook(StileError):
    """A value that should be a book and is none."""

    def __init__(self, thing):
        self.thing = thing


class BadLetters(StileError):
    """A value that should be a lamp row and is none."""

    def __init__(self, thing):
        self.thing = thing


class BadNumber(StileError):
    """A value that should be a number of some kind and is none."""

    def __init__(self, thing):
        self.thing = thing


class TooLong(StileError):
    """A row of so many steps is not written out."""

    def __init__(self, steps):
        self.steps = steps


class NotClosed(StileError):
    """A row or a show that should be closed and is not."""

    def __init__(self, thing):
        self.thing = thing


class NotBalanced(StileError):
    """A show that should be balanced and is not."""

    def __init__(self, certificate):
        self.certificate = certificate


class BadName(StileError):
    """A value that cannot be a name."""

    def __init__(self, name):
        self.name = name


class NoName(StileError):
    """A value that is no name of the house."""

    def __init__(self, name):
        self.name = name


class Here(StileError):
    """A name that the house has already."""

    def __init__(self, name):
        self.name = name


class BadPromise(StileError):
    """A value that is no promise that is asked for."""

    def __init__(self, thing):
        self.thing = thing


class Broken(StileError):
    """A promise of a house that would not hold."""

    def __init__(self, promise, certificate):
        self.promise = promise
        self.certificate = certificate


class BadText(StileError):
    """A value that is not the text of what is read."""

    def __init__(self, line):
        self.line = line


class NothingToUndo(StileError):
    """There is no deed to take back."""


class NothingToRedo(StileError):
    """There is no deed to do again."""
