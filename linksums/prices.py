"""What questions and changes cost with a pair, and the cheapest right pairs."""

from linksums.checks import check_amounts, check_asked, check_pair
from linksums.costs import is_valid, least_costs, least_pair
from linksums.links import walk_down, walk_up


def price(pair, asked, changed):
    """Return the price of a pair for so many questions and changes at each place."""
    check_pair(pair)
    down, up = pair
    check_amounts(asked, len(down))
    check_amounts(changed, len(down))
    questions = [many * len(walk_down(down, place)) for place, many in enumerate(asked, 1)]
    changes = [many * len(walk_up(up, place)) for place, many in enumerate(changed, 1)]
    return sum(questions) + sum(changes)


def cheapest(asked, changed):
    """Return a right pair with the least price."""
    _check_uses(asked, changed)
    return least_pair(len(asked), _cost(asked, changed))


def price_table(asked, changed):
    """Return a valid price table in which all places together have the least price."""
    _check_uses(asked, changed)
    return least_costs(len(asked), _cost(asked, changed))


def is_price_table(asked, changed, table):
    """Tell whether a thing is a valid price table."""
    _check_uses(asked, changed)
    return is_valid(table, len(asked), _cost(asked, changed))


def _check_uses(asked, changed):
    check_asked(asked)
    check_amounts(changed, len(asked))


def _cost(asked, changed):
    """Return the cost of a root: it is in the walks down from its right, and in the walks up from its left."""
    return lambda first, root, last: sum(asked[root - 1:last]) + sum(changed[first - 1:root])
