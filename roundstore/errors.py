"""The refusals of the store, each a kind of its own: none stands under another.

Where one is made with a value, that may be of anything, so no message is built of it here.
"""


class NoStore(ValueError):
    """Of what was handed in no store can be made."""


class NoLine(ValueError):
    """A line is of none of the desk's forms."""


class Busy(RuntimeError):
    """A freezing is under way, and the store takes nothing that changes it."""


class Taken(KeyError):
    """No word, or the name of some looker."""

    def __init__(self, name):
        self.name = name


class NoDeed(LookupError):
    """No open deed has this name."""

    def __init__(self, name):
        self.name = name


class NoName(LookupError):
    """Nobody who looks has this name."""

    def __init__(self, name):
        self.name = name


class NoHouse(LookupError):
    """No far house has this name."""

    def __init__(self, name):
        self.name = name


class NoTable(LookupError):
    """The store has no table of this name."""

    def __init__(self, name):
        self.name = name


class NoRow(LookupError):
    """No row can be put so, or none of this key is seen."""

    def __init__(self, key):
        self.key = key


class Late(RuntimeError):
    """A row of this key was changed by a deed that is done, but not for the look."""

    def __init__(self, key):
        self.key = key


class Waits(RuntimeError):
    """Another open deed has changed this row: who it is."""

    def __init__(self, who):
        self.who = who


class Looked(RuntimeError):
    """Freezing would pass the horizon, which this looker holds."""

    def __init__(self, name):
        self.name = name


class NoNumber(ValueError):
    """No number that can be taken here."""

    def __init__(self, number):
        self.number = number


class Stopped(OverflowError):
    """No number is given any more: who holds the store."""

    def __init__(self, by):
        self.by = by


class NoText(ValueError):
    """No text for a desk: the row that is not so."""

    def __init__(self, row):
        self.row = row
