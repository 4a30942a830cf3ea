"""Signed sums, and the pairs that are alike."""

from linksums.checks import check_equal_pairs, check_pair
from linksums.errors import InvalidNumber
from linksums.links import counts

# All pairs are gone through to list those alike; with more places they are too many.
MOST_LISTED = 4


def signed_sums(pair):
    """Return the tuples (i, j, signed sum) of all signed sums that are not 0, ascending."""
    check_pair(pair)
    return _sums(pair)


def are_alike(pair, other):
    """Tell whether two pairs for equally many places are alike."""
    check_equal_pairs(pair, other)
    return _sums(pair) == _sums(other)


def parting(pair, other):
    """Return the nearest two places whose counts differ, or None if the pairs are alike."""
    check_equal_pairs(pair, other)
    ours, theirs = counts(pair), counts(other)
    places = len(ours)
    for gap in range(1, places):
        for second in range(1, places - gap + 1):
            first = second + gap
            if ours[first - 1][second - 1] != theirs[first - 1][second - 1]:
                return (first, second)
    return None


def alike_pairs(pair):
    """Return all pairs that are alike to a pair for at most 4 places, ascending."""
    check_pair(pair)
    places = len(pair[0])
    if places > MOST_LISTED:
        raise InvalidNumber(places)
    sums = _sums(pair)
    found = []
    for down in _down_tables(places):
        for up in _up_tables(places):
            if _sums((down, up)) == sums:
                # Copies, since no list may stand twice in the result.
                found.append((list(down), list(up)))
    return found


def _sums(pair):
    down, up = pair
    sums = {}
    for place in range(1, len(down) + 1):
        below, above = down[place - 1], up[place - 1]
        has_below, has_above = below > 0, above <= len(up)
        if has_below:
            _add(sums, (place, below), 1)
        if has_above:
            _add(sums, (above, place), 1)
        if has_below and has_above:
            _add(sums, (above, below), -1)
    return [(first, second, sums[first, second]) for first, second in sorted(sums) if sums[first, second]]


def _add(sums, places, more):
    sums[places] = sums.get(places, 0) + more


def _down_tables(places):
    return _rows([list(range(place)) for place in range(1, places + 1)])


def _up_tables(places):
    return _rows([list(range(place + 1, places + 2)) for place in range(1, places + 1)])


def _rows(choices):
    """Return all rows with one thing of each of the lists, ascending if these are."""
    rows = [[]]
    for things in choices:
        rows = [row + [thing] for row in rows for thing in things]
    return rows
