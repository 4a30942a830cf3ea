"""Pairs for operations other than sums: those that never miss, those that never count twice, and books that join."""

from linksums.checks import check_down, check_pair, check_place, check_row
from linksums.links import counts, walk_down, walk_up
from linksums.trees import check_right, down_links, up_links


def limits(down):
    """Return the greatest up link of each place with which a down table never misses."""
    check_down(down)
    return up_links(down)


def never_misses(pair):
    """Tell whether each total has the values at all places up to its own in it."""
    check_pair(pair)
    down, up = pair
    return all([link <= limit for link, limit in zip(up, up_links(down))])


def never_twice(pair):
    """Tell whether no total has a value in it more than once."""
    return all([often <= 1 for row in counts(pair) for often in row])


def count_never_missing(down):
    """Return the number of up tables with which a down table never misses."""
    many = 1
    for place, limit in enumerate(limits(down), 1):
        many *= limit - place
    return many


def right_within(pair):
    """Return the right pair whose up links are the limits, or None for a pair that misses."""
    if not never_misses(pair):
        return None
    up = up_links(pair[0])
    return (down_links(up), up)


def clashes(pair):
    """Return the tuples of two places that clash, ascending."""
    check_pair(pair)
    down, up = pair
    return [
        (lesser, greater)
        for lesser, link in enumerate(up, 1)
        for greater in range(lesser + 1, link)
        if down[greater - 1] < lesser
    ]


def clashes_apart(pair):
    """Return as many clashes as can be, no two with the same first place and no two with the same second place."""
    partners = _partners(_rivals(pair))
    return [(partners[greater], greater) for greater in partners]


def nearest_never_missing(pair):
    """Return a pair that never misses, with as few links changed as can be."""
    rivals = _rivals(pair)
    partners = _partners(rivals)
    reached = _reached(rivals, partners)
    down, up = list(pair[0]), list(pair[1])
    # Each clash has its lesser place among those whose up link is changed here, or its greater one among
    # those whose down link is: from a lesser place that is left over or reached, all its rivals are reached.
    for greater in partners:
        lesser = partners[greater]
        if greater in reached:
            down[greater - 1] = greater - 1
        else:
            up[lesser - 1] = lesser + 1
    return (down, up)


class JoinBook:
    """Cells to which values are joined, and totals that join the cells."""

    def __init__(self, pair, join, nought):
        check_pair(pair)
        down, up = pair
        self._down = list(down)
        self._up = list(up)
        self._join = join
        self._cells = [nought] * len(down)

    @property
    def cells(self):
        """The cells."""
        return list(self._cells)

    def bring(self, place, value):
        """Join a value to the cells of the walk up from a place."""
        join = self._join
        for reached in walk_up(self._up, place):
            self._cells[reached - 1] = join(self._cells[reached - 1], value)

    def total(self, place):
        """Return the total of a place."""
        walk = walk_down(self._down, place)
        return _joined(self._join, [self._cells[reached - 1] for reached in walk])


class OrderBook:
    """Values that are joined in their order, and the cells of a right pair for them."""

    def __init__(self, pair, join, row):
        check_right(pair)
        down, up = pair
        check_row(row, len(down))
        self._down = list(down)
        self._up = list(up)
        self._join = join
        self._row = list(row)
        self._cells = list(row)
        for place in range(1, len(row) + 1):
            self._join_anew(place)

    @property
    def cells(self):
        """The cells."""
        return list(self._cells)

    def put(self, place, value):
        """Change the value at a place, and return the old one."""
        check_place(place, len(self._row))
        old = self._row[place - 1]
        self._row[place - 1] = value
        for reached in walk_up(self._up, place):
            self._join_anew(reached)
        return old

    def total(self, place):
        """Return what the values at the places up to this one give in their order."""
        walk = walk_down(self._down, place)
        return _joined(self._join, [self._cells[reached - 1] for reached in walk[::-1]])

    def _join_anew(self, place):
        """Join the cells whose up link is a place, and then its own value."""
        parts = [self._cells[below - 1] for below, link in enumerate(self._up, 1) if link == place]
        self._cells[place - 1] = _joined(self._join, parts + [self._row[place - 1]])


def _joined(join, parts):
    """Return what one or more parts give when they are joined in their order."""
    whole = parts[0]
    for part in parts[1:]:
        whole = join(whole, part)
    return whole


def _rivals(pair):
    """Return the greater places with which each lesser one clashes."""
    rivals = {}
    for lesser, greater in clashes(pair):
        rivals.setdefault(lesser, []).append(greater)
    return rivals


def _partners(rivals):
    """Return a lesser place for each of as many greater ones as can be, all of them different."""
    partners = {}
    for lesser in rivals:
        _finds_partner(lesser, rivals, partners, {})
    return partners


def _finds_partner(lesser, rivals, partners, tried):
    """Give a lesser place a greater one, if need be by giving others new ones, and tell whether this was done."""
    for greater in rivals[lesser]:
        if greater not in tried:
            tried[greater] = True
            if greater not in partners or _finds_partner(partners[greater], rivals, partners, tried):
                partners[greater] = lesser
                return True
    return False


def _reached(rivals, partners):
    """Return the greater places to which ways lead from lesser ones without a partner, over rivals and partners."""
    paired = list(partners.values())
    ahead = [lesser for lesser in rivals if lesser not in paired]
    reached = {}
    while ahead:
        lesser = ahead.pop()
        for greater in rivals[lesser]:
            if greater not in reached:
                reached[greater] = True
                # It has a partner, since as many places have one as can be.
                ahead.append(partners[greater])
    return reached
