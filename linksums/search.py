"""The first place whose total is great enough."""

from linksums.checks import check_amounts, check_number
from linksums.links import cells_of
from linksums.trees import check_right, roots_of


def reached(pair, values, least):
    """Return the first place whose total is at least a number, and how many cells the search looks at."""
    check_right(pair)
    down, up = pair
    check_amounts(values, len(down))
    check_number(least)
    cells, roots = cells_of(up, values), roots_of(pair)
    missing, looks = least, 0
    # The place that is looked for is greater than the one below, and not greater than the one above.
    below, above = 0, len(down) + 1
    while above - below > 1:
        root = roots[below, above]
        looks += 1
        if cells[root - 1] < missing:
            missing -= cells[root - 1]
            below = root
        else:
            above = root
    return (above, looks)
