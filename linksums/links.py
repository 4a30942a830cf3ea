"""Walks along the links, the counts of a pair, cells, values and totals."""

from linksums.checks import check_down, check_pair, check_place, check_up, check_values


def walk_down(down, place):
    """Return the places of the walk down from a place."""
    check_down(down)
    check_place(place, len(down))
    return _way_down(down, place)


def walk_up(up, place):
    """Return the places of the walk up from a place."""
    check_up(up)
    check_place(place, len(up))
    return _way_up(up, place)


def count(pair, first, second):
    """Return how often the total of the first place counts the value at the second one."""
    check_pair(pair)
    down, up = pair
    check_place(first, len(down))
    check_place(second, len(down))
    return _shared(_way_down(down, first), _way_up(up, second))


def counts(pair):
    """Return a list of the counts for each place, in the order of the second places."""
    check_pair(pair)
    down, up = pair
    places = range(1, len(down) + 1)
    downward = [_way_down(down, place) for place in places]
    upward = [_way_up(up, place) for place in places]
    return [[_shared(below, above) for above in upward] for below in downward]


def cells_of(up, values):
    """Return the cells when each value has been added at its place."""
    check_up(up)
    check_values(values, len(up))
    cells = [0] * len(up)
    for place, value in enumerate(values, 1):
        for reached in _way_up(up, place):
            cells[reached - 1] += value
    return cells


def values_of(up, cells):
    """Return the values that lead to these cells."""
    check_up(up)
    check_values(cells, len(up))
    values = list(cells)
    for cell, link in zip(cells, up):
        if link <= len(up):
            values[link - 1] -= cell
    return values


def total(down, cells, place):
    """Return the total of a place: the sum of the cells in the walk down from it."""
    check_down(down)
    check_values(cells, len(down))
    check_place(place, len(down))
    return sum([cells[reached - 1] for reached in _way_down(down, place)])


def _way_down(down, place):
    return _way(down, place, 0)


def _way_up(up, place):
    return _way(up, place, len(up) + 1)


def _way(links, place, end):
    way = []
    while place != end:
        way.append(place)
        place = links[place - 1]
    return way


def _shared(below, above):
    return len([place for place in below if place in above])
