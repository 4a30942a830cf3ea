"""The errors of the package. A field holds what was passed, unless its class says otherwise."""


class InvalidPair(ValueError):
    """What was passed is no pair or no table.

    The table is "down", "up" or None, the place is that of the first wrong link or None.
    """

    def __init__(self, table, place):
        self.table = table
        self.place = place


class InvalidNumber(ValueError):
    """A number is not as described."""

    def __init__(self, number):
        self.number = number


class UnknownPlace(LookupError):
    """What was passed is not a place of the table or pair."""

    def __init__(self, place):
        self.place = place


class InvalidValues(ValueError):
    """What was passed is not a list of so many numbers.

    The place is that of the first thing that is not as described, or None.
    """

    def __init__(self, place):
        self.place = place


class InvalidTree(ValueError):
    """What was passed is not a tree of the places from 1 to some number."""


class NotRight(ValueError):
    """A pair is not right: the count of the places first and second is not 1."""

    def __init__(self, first, second):
        self.first = first
        self.second = second


class UnequalPairs(ValueError):
    """Two pairs are for unequal numbers of places: these are the fields."""

    def __init__(self, first, second):
        self.first = first
        self.second = second


class NoMove(LookupError):
    """There is no such move."""

    def __init__(self, move):
        self.move = move


class NoWay(LookupError):
    """No forward moves lead to the other pair."""


class NothingToUndo(LookupError):
    """There is nothing that could be taken back."""


class InvalidText(ValueError):
    """A text does not write a pair.

    The line is the number, from 0, of the first wrong line, or None.
    """

    def __init__(self, line):
        self.line = line
