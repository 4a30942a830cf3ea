"""Trees at the least cost, where the cost of a root hangs on the places of its subtree.

A cost is a function of the first place, the root and the last place of a subtree. A table has a number for
each (first, last); for an empty subtree it counts as 0.
"""

from linksums.checks import is_whole
from linksums.trees import pair_of


def least_costs(places, cost):
    """Return the table of the least costs of the trees of all stretches of places."""
    table = {}
    for first in range(places, 0, -1):
        for last in range(first, places + 1):
            table[first, last] = min(_sums(table, cost, first, last))
    return table


def least_pair(places, cost):
    """Return the right pair of a tree at the least cost."""
    return pair_of(_least_tree(least_costs(places, cost), cost, 1, places))


def is_valid(table, places, cost):
    """Tell whether a thing is a table with no number greater than the sum for any root."""
    stretches = [(first, last) for first in range(1, places + 1) for last in range(first, places + 1)]
    if not isinstance(table, dict) or len(table) != len(stretches):
        return False
    if not all([stretch in table and is_whole(table[stretch]) for stretch in stretches]):
        return False
    return all([table[first, last] <= min(_sums(table, cost, first, last)) for first, last in stretches])


def _sums(table, cost, first, last):
    """Return for each root its cost and the numbers of its left and its right subtree, added up."""
    return [
        table.get((first, root - 1), 0) + table.get((root + 1, last), 0) + cost(first, root, last)
        for root in range(first, last + 1)
    ]


def _least_tree(table, cost, first, last):
    if first > last:
        return None
    sums = _sums(table, cost, first, last)
    root = first + sums.index(min(sums))
    return (_least_tree(table, cost, first, root - 1), root, _least_tree(table, cost, root + 1, last))
