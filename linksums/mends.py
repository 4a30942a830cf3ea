"""How many links of a pair are wrong, and the right pairs that are nearest to it."""

from linksums.checks import check_pair
from linksums.costs import is_valid, least_costs, least_pair


def wrong_links(pair):
    """Return the least number of links that have to be changed so that a pair is right."""
    return mend_table(pair)[1, len(pair[0])]


def mended(pair):
    """Return a right pair that differs from a pair in as few links as can be."""
    check_pair(pair)
    return least_pair(len(pair[0]), _cost(pair))


def mend_table(pair):
    """Return a valid mend table in which all places together have the number of wrong links."""
    check_pair(pair)
    return least_costs(len(pair[0]), _cost(pair))


def is_mend_table(pair, table):
    """Tell whether a thing is a valid mend table."""
    check_pair(pair)
    return is_valid(table, len(pair[0]), _cost(pair))


def _cost(pair):
    """Return the cost of a root: the number of its links that do not lead out of its subtree."""
    down, up = pair
    return lambda first, root, last: int(down[root - 1] != first - 1) + int(up[root - 1] != last + 1)
