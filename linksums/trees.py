"""Right pairs and their trees, the table that goes with another one, and pairs turned about."""

from linksums.checks import MOST_PLACES, check_down, check_pair, check_up, is_whole
from linksums.errors import InvalidTree, NotRight
from linksums.links import walk_down, walk_up
from linksums.signs import parting


def is_right(pair):
    """Tell whether a pair is right."""
    check_pair(pair)
    return _wrong_count(pair) is None


def check_right(pair):
    """Check a pair that has to be right."""
    check_pair(pair)
    wrong = _wrong_count(pair)
    if wrong is not None:
        first, second = wrong
        raise NotRight(first, second)


def plain_pair(places):
    """Return the right pair whose cells are the values."""
    return (list(range(places)), [places + 1] * places)


def up_links(down):
    """Return for each place the least greater one whose down link is less than it, or one more than all places."""
    return [_least_above(down, place) for place in range(1, len(down) + 1)]


def down_links(up):
    """Return for each place the greatest lesser one whose up link is greater than it, or 0."""
    return [_greatest_below(up, place) for place in range(1, len(up) + 1)]


def up_for(down):
    """Return the up table with which a down table is a right pair, or None."""
    check_down(down)
    up = up_links(down)
    return up if is_right((down, up)) else None


def down_for(up):
    """Return the down table with which an up table is a right pair, or None."""
    check_up(up)
    down = down_links(up)
    return down if is_right((down, up)) else None


def tree_of(pair):
    """Return the tree of a right pair: None, or a tuple of its left tree, its root and its right tree."""
    check_right(pair)
    return _tree(roots_of(pair), 0, len(pair[0]) + 1)


def roots_of(pair):
    """Return the root of each subtree of a right pair, by the places next to the subtree below and above it."""
    down, up = pair
    return {(below, above): place for place, (below, above) in enumerate(zip(down, up), 1)}


def pair_of(tree):
    """Return the right pair of a tree."""
    places = _places_of(tree)
    many = len(places)
    if not 1 <= many <= MOST_PLACES or places != list(range(1, many + 1)):
        raise InvalidTree()
    links = _links_of(tree, 0, many + 1)
    return ([below for below, _ in links], [above for _, above in links])


def depths(pair):
    """Return the depths of the places in the tree of a right pair."""
    check_right(pair)
    down, up = pair
    # The place itself is in both walks, every other ancestor in one of them.
    return [len(walk_down(down, place)) + len(walk_up(up, place)) - 1 for place in range(1, len(down) + 1)]


def turned(pair):
    """Return a pair turned about."""
    check_pair(pair)
    down, up = pair
    end = len(down) + 1
    return ([end - link for link in up[::-1]], [end - link for link in down[::-1]])


def _wrong_count(pair):
    """Return the nearest two places whose count should be 1 and is not, or None."""
    # All counts of the plain pair are as they should be.
    return parting(pair, plain_pair(len(pair[0])))


def _least_above(down, place):
    for above in range(place + 1, len(down) + 1):
        if down[above - 1] < place:
            return above
    return len(down) + 1


def _greatest_below(up, place):
    for below in range(place - 1, 0, -1):
        if up[below - 1] > place:
            return below
    return 0


def _tree(roots, below, above):
    if above - below == 1:
        return None
    root = roots[below, above]
    return (_tree(roots, below, root), root, _tree(roots, root, above))


def _places_of(tree):
    """Return the places of a tree from left to right; a thing of another form is no tree."""
    if tree is None:
        return []
    if not isinstance(tree, tuple) or len(tree) != 3 or not is_whole(tree[1]):
        raise InvalidTree()
    left, root, right = tree
    return _places_of(left) + [root] + _places_of(right)


def _links_of(tree, below, above):
    """Return the down link and the up link of each place of a tree that lies between two places."""
    if tree is None:
        return []
    left, root, right = tree
    return _links_of(left, below, root) + [(below, above)] + _links_of(right, root, above)
