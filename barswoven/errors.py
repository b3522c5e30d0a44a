"""The errors that the program raises."""


class WovenError(ValueError):
    """The base class of all errors of the program."""


class NoInverse(WovenError):
    """A residue has no inverse."""


class InvalidMatrix(WovenError):
    """Something is no matrix, or matrices do not fit."""


class Singular(WovenError):
    """A matrix has no inverse."""


class InvalidTime(WovenError):
    """A time is earlier than it may be."""


class InvalidRow(WovenError):
    """Something is no row, or rows do not fit."""


class InvalidMap(WovenError):
    """Something is no map with a lag, or maps do not fit."""


class InvalidWeaving(WovenError):
    """Something is no weaving, or weavings do not fit."""


class InvalidGrowth(WovenError):
    """Something is no growth, or a growth lacks what is asked for."""


class NoChain(WovenError):
    """No chain of weavings leads from one name to another."""


class InvalidName(WovenError):
    """A name that no row of a book can have."""

    def __init__(self, name):
        super().__init__(f"not a name: {name}")
        self.name = name


class DuplicateName(WovenError):
    """A name that a book has already."""

    def __init__(self, name):
        super().__init__(f"a name that is taken: {name}")
        self.name = name


class UnknownName(WovenError):
    """A name that a book does not have."""

    def __init__(self, name):
        super().__init__(f"an unknown name: {name}")
        self.name = name


class InvalidText(WovenError):
    """A text that is not the written form of what is read from it."""

    def __init__(self, line):
        super().__init__(f"line {line} is not valid")
        self.line = line
