"""Pairs and numbers for the tests, and the document's definitions written out anew."""

import copy
import itertools
import random

NINETEEN = 9999999999999999999
TWENTY = 99999999999999999999


def all_downs(places):
    """All down tables, ascending."""
    return [list(row) for row in itertools.product(*[range(k) for k in range(1, places + 1)])]


def all_ups(places):
    """All up tables, ascending."""
    return [list(row) for row in itertools.product(*[range(k + 1, places + 2) for k in range(1, places + 1)])]


def all_pairs(places):
    """All pairs, ascending."""
    return [(list(down), list(up)) for down in all_downs(places) for up in all_ups(places)]


def plain(places):
    return ([k - 1 for k in range(1, places + 1)], [places + 1] * places)


def totals(places):
    return ([0] * places, [k + 1 for k in range(1, places + 1)])


def by_powers(places):
    lows = [k & -k for k in range(1, places + 1)]
    down = [k - low for k, low in enumerate(lows, 1)]
    up = [min(k + low, places + 1) for k, low in enumerate(lows, 1)]
    return (down, up)


def mixed(places, seed):
    """Some pair, nearly never a right one."""
    some = random.Random(seed)
    down = [some.randint(0, k - 1) for k in range(1, places + 1)]
    up = [some.randint(k + 1, places + 1) for k in range(1, places + 1)]
    return (down, up)


def close(places, seed):
    """Some pair with short links, so that its walks are long and its counts great."""
    some = random.Random(seed)
    down = [some.randint(max(0, k - 2), k - 1) for k in range(1, places + 1)]
    up = [some.randint(k + 1, min(k + 2, places + 1)) for k in range(1, places + 1)]
    return (down, up)


def large_pairs():
    """Pairs for 5 to 16 places, right ones and others."""
    pairs = []
    for places in (5, 7, 8, 12, 15, 16):
        pairs += [plain(places), totals(places), by_powers(places)]
        # The greatest counts: every place is in every walk that may have it.
        pairs.append((plain(places)[0], totals(places)[1]))
        pairs.append((totals(places)[0], plain(places)[1]))
        for seed in range(3):
            pairs += [mixed(places, seed), close(places, seed)]
    return pairs


def some_pairs():
    """All pairs for 1 to 3 places, and the large ones."""
    return all_pairs(1) + all_pairs(2) + all_pairs(3) + large_pairs()


def rows_of_numbers(places):
    """Rows of so many numbers: small ones, nought, such below 0, of nineteen and twenty digits."""
    some = random.Random(places)
    unit_rows = [[int(k == at) for k in range(places)] for at in range(places)]
    return unit_rows + [
        [0] * places,
        [1] * places,
        [some.randint(-9, 9) for _ in range(places)],
        [some.choice([-1, 1]) * (NINETEEN - k) for k in range(places)],
        [some.choice([-1, 1]) * (TWENTY - k) for k in range(places)],
        [TWENTY] * places,
        [-TWENTY] * places,
    ]


def defined_walk(links, place, end):
    """The walk [6]."""
    link = links[place - 1]
    return [place] if link == end else [place] + defined_walk(links, link, end)


def defined_count(pair, first, second):
    """The count [8]."""
    down, up = pair
    below = set(defined_walk(down, first, 0))
    above = set(defined_walk(up, second, len(up) + 1))
    return len(below & above)


def defined_counts(pair):
    places = range(1, len(pair[0]) + 1)
    return [[defined_count(pair, i, j) for j in places] for i in places]


def defined_sum(pair, i, j):
    """The signed sum [15]."""
    down, up = pair
    both = sum(1 for k in range(len(down)) if up[k] == i and down[k] == j)
    return int(down[i - 1] == j) + int(up[j - 1] == i) - both


def defined_parting(pair, other):
    """The nearest places whose counts differ, of these those with the least second place."""
    ours, theirs = defined_counts(pair), defined_counts(other)
    places = range(1, len(ours) + 1)
    apart = [(i - j, j, i) for i in places for j in places if ours[i - 1][j - 1] != theirs[i - 1][j - 1]]
    if not apart:
        return None
    _, j, i = min(apart)
    return (i, j)


def first_wrong(pair):
    """The nearest places whose count should be 1 and is not, of these those with the least second place."""
    return defined_parting(pair, plain(len(pair[0])))


def defined_cover(pair, i, j):
    """The cover [19] of the stretch from j to i, 0 where j is greater than i."""
    down, up = pair
    return sum(1 for k in range(j, i + 1) if down[k - 1] < j and up[k - 1] > i)


def defined_covers(pair):
    places = range(1, len(pair[0]) + 1)
    return [[defined_cover(pair, i, j) for j in places] for i in places]


def told_totals(pair, values):
    """The totals that a pair tells when each value has been added at its place."""
    rows = defined_counts(pair)
    return [sum(often * value for often, value in zip(row, values)) for row in rows]


def up_to(values):
    """The sums of the values up to each place."""
    return list(itertools.accumulate(values))


def forward_from(pair):
    """All forward moves [17] of a pair, ascending, each with the pair after it."""
    down, up = pair
    found = []
    for x, y in itertools.combinations(range(1, len(down) + 1), 2):
        if up[x - 1] == y and down[x - 1] == down[y - 1]:
            new = copy.deepcopy(pair)
            new[1][x - 1] = up[y - 1]
            new[0][y - 1] = x
            found.append(((x, y), new))
    return found


def back_from(pair):
    """All back moves [17] of a pair, ascending, each with the pair after it."""
    down, up = pair
    found = []
    for x, y in itertools.combinations(range(1, len(down) + 1), 2):
        if up[x - 1] == up[y - 1] and down[y - 1] == x:
            new = copy.deepcopy(pair)
            new[1][x - 1] = y
            new[0][y - 1] = down[x - 1]
            found.append(((x, y), new))
    return found


def moves_from(pair):
    """All pairs to which a move leads, forward or back."""
    return [new for _, new in forward_from(pair) + back_from(pair)]


def all_trees(least, most):
    """All trees [10] of the places from the least to the most."""
    if least > most:
        return [None]
    return [
        (left, root, right)
        for root in range(least, most + 1)
        for left in all_trees(least, root - 1)
        for right in all_trees(root + 1, most)
    ]


def some_tree(least, most, some):
    """One of these trees, chosen by the given source of numbers."""
    if least > most:
        return None
    root = some.randint(least, most)
    return (some_tree(least, root - 1, some), root, some_tree(root + 1, most, some))


def subtrees(tree, least, most, ahead=()):
    """For each place of a tree its subtree's first and last place, and its ancestors, itself included."""
    if tree is None:
        return {}
    left, root, right = tree
    ancestors = ahead + (root,)
    found = {root: (least, most, ancestors)}
    found.update(subtrees(left, least, root - 1, ancestors))
    found.update(subtrees(right, root + 1, most, ancestors))
    return found


def defined_pair(tree, places):
    """The right pair of a tree [10]."""
    spans = subtrees(tree, 1, places)
    down = [spans[k][0] - 1 for k in range(1, places + 1)]
    up = [spans[k][1] + 1 for k in range(1, places + 1)]
    return (down, up)


def right_pairs(places):
    """All right pairs."""
    return [defined_pair(tree, places) for tree in all_trees(1, places)]


def large_trees():
    """Tuples of a number of places and some tree of so many."""
    return [(places, some_tree(1, places, random.Random(seed))) for places in (6, 9, 15, 16) for seed in range(6)]


def some_right_pairs():
    """All right pairs for 1 to 5 places, and large ones."""
    pairs = [pair for places in range(1, 6) for pair in right_pairs(places)]
    for places in (6, 7, 8, 12, 15, 16):
        pairs += [plain(places), totals(places), by_powers(places)]
    return pairs + [defined_pair(tree, places) for places, tree in large_trees()]


def drawn_pairs(most=16, seeds=6):
    """Pairs of 4 to 16 places that are drawn, some with long links and some with short ones."""
    return [draw(places, seed) for places in range(4, most + 1) for seed in range(seeds) for draw in (mixed, close)]


def walks_down(pair):
    """The walk down from each place."""
    return [defined_walk(pair[0], k, 0) for k in range(1, len(pair[0]) + 1)]


def walks_up(pair):
    """The walk up from each place."""
    return [defined_walk(pair[1], k, len(pair[1]) + 1) for k in range(1, len(pair[1]) + 1)]


def changed_links(pair, other):
    """The number of links, in both tables together, in which two pairs differ."""
    return sum(one != two for ours, theirs in zip(pair, other) for one, two in zip(ours, theirs))


def counts_that_should_be_1(pair):
    """All counts of a place and one that is not greater."""
    return [often for i, row in enumerate(defined_counts(pair), 1) for often in row[:i]]


def lists_in(thing):
    """All lists within a thing, itself included, each as often as it stands there."""
    if not isinstance(thing, (list, tuple)):
        return []
    inner = [found for part in thing for found in lists_in(part)]
    return [thing] + inner if isinstance(thing, list) else inner
