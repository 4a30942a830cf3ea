"""How often each stretch of places is covered, and the right answers from any pair."""

from linksums.checks import check_number, check_pair, check_place, check_values
from linksums.signs import signed_sums


def covers(pair):
    """Return a list of the covers for each place, in the order of the places where the stretches begin."""
    check_pair(pair)
    places = range(1, len(pair[0]) + 1)
    return [[_cover(pair, last, first) for first in places] for last in places]


def right_totals(pair, totals):
    """Return the sums of the values up to each place, if a pair tells these totals."""
    check_pair(pair)
    check_values(totals, len(pair[0]))
    rises = _rises(totals)
    return [sum([often * rise for often, rise in zip(row, rises)]) for row in covers(pair)]


def values_by_totals(pair, totals):
    """Return the values for which a pair tells these totals."""
    check_pair(pair)
    check_values(totals, len(pair[0]))
    values = list(totals)
    for first, second, worth in signed_sums(pair):
        values[first - 1] -= worth * totals[second - 1]
    return values


def right_changes(pair, place, more):
    """Return what to add to each value so that just the totals from a place on rise, each by more."""
    check_pair(pair)
    check_place(place, len(pair[0]))
    check_number(more)
    return [more * rise for rise in _rises([row[place - 1] for row in covers(pair)])]


def _cover(pair, last, first):
    down, up = pair
    stretch = range(first, last + 1)
    return len([place for place in stretch if down[place - 1] < first and up[place - 1] > last])


def _rises(numbers):
    """Return by how much each number is greater than the one ahead of it, and the first one than 0."""
    return [number - ahead for number, ahead in zip(numbers, [0] + numbers)]
