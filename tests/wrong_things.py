"""Wrong arguments for the tests of errors, and what these tests look at."""

import unittest

from linksums.errors import InvalidPair
from tests import samples

DOWN, UP = [0, 1, 0], [2, 3, 4]
PAIR = (DOWN, UP)

# No whole numbers, and whole numbers that are no places of three.
NO_NUMBERS = [True, False, None, "1", "", b"1", 1.0, [1], (1,), {1: 1}, {1}, object()]
NO_PLACES = NO_NUMBERS + [0, 4, -1, 17, samples.TWENTY, -samples.TWENTY]


class NoWholeThing:
    """A thing that fails when it is compared, so it must not be taken for a number."""

    def __eq__(self, other):
        raise RuntimeError("compared")

    __lt__ = __le__ = __gt__ = __ge__ = __eq__
    __hash__ = None


def two(places):
    """A down table and an up table, without links that are wrong, for so many places."""
    return [0] * places, [places + 1] * places


def no_two_tables():
    """Things that are no tuple of two lists of equally many things, 1 to 16."""
    down, up = two(3)
    seventeen = two(17)
    return [
        None, True, 0, 3, "", "ab", b"ab", {}, {0: down, 1: up}, {1, 2}, object(), NoWholeThing(),
        (), (down,), (down, up, up), (down, up, None), [down, up], [], down,
        (tuple(down), up), (down, tuple(up)), (tuple(down), tuple(up)), (down, None), (None, up), (None, None),
        (down, "abc"), ("abc", up), (down, {1: 4, 2: 4, 3: 4}), (down, 3), (3, up), (down, range(3)),
        ([], []), (down, []), ([], up), (down, up[:2]), (down[:2], up), (down, up + [4]), (down + [0], up),
        seventeen, (seventeen[0], two(16)[1]), (two(16)[0], seventeen[1]), two(100),
        # The links are wrong, too, but this comes first.
        ([None] * 17, [None] * 17), ([9], [9, 9]), [[9], [9]], ((9,), (9,)),
    ]


def no_tables():
    """Things that are no list of 1 to 16 things."""
    return [None, True, 0, 3, "", "abc", b"abc", {}, {0: 0}, {0}, (0, 0, 0), (), range(3), object(), NoWholeThing(),
            [], [0] * 17, [18] * 17, [None] * 17, [0] * 100, PAIR]


def wrong_downs():
    """Down tables with wrong links, and the first wrong place of each."""
    rows = [([0, 1, 2, link], 4) for link in [4, 5, 6, -1, samples.TWENTY, -samples.TWENTY] + NO_NUMBERS]
    rows += [([link, 0, 0], 1) for link in [1, 2, -1] + NO_NUMBERS]
    rows += [([0, link, 0], 2) for link in [2, 3, 4, -1, NoWholeThing()] + NO_NUMBERS]
    rows += [([0, 2, 3, 4], 2), ([0, 0, None, True], 3), ([1, True, None], 1), ([False], 1), ([1], 1), ([None], 1)]
    rows += [([0] * 15 + [16], 16), ([0] * 15 + [-1], 16), ([0] * 9 + [10] * 7, 10)]
    return rows


def wrong_ups():
    """Up tables with wrong links, and the first wrong place of each."""
    rows = [([2, 3, 4, link], 4) for link in [0, 1, 4, 6, -5, samples.TWENTY, -samples.TWENTY] + NO_NUMBERS]
    rows += [([link, 4, 4], 1) for link in [0, 1, 5, -1] + NO_NUMBERS]
    rows += [([2, link, 4], 2) for link in [0, 1, 2, 5, -3, NoWholeThing()] + NO_NUMBERS]
    rows += [([5, 2, 3, 4], 2), ([4, 4, None, True], 3), ([5, True, None], 1), ([True], 1), ([1], 1), ([3], 1)]
    rows += [([17] * 15 + [16], 16), ([17] * 15 + [18], 16), ([17] * 9 + [10] * 7, 10)]
    return rows


class Raising(unittest.TestCase):
    """Helps the tests of errors: they look at the class itself, and at each field."""

    def raised(self, kind, function, *arguments):
        with self.assertRaises(kind) as caught:
            function(*arguments)
        self.assertIs(type(caught.exception), kind)
        return caught.exception

    def check_pair_error(self, table, place, function, *arguments):
        error = self.raised(InvalidPair, function, *arguments)
        self.assertEqual((error.table, error.place), (table, place))
        self.assertIsNot(type(error.place), bool)
