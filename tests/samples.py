"""Pairs and numbers for the tests, and the document's definitions written out anew."""

import copy
import itertools
import random

NINETEEN = 9999999999999999999
TWENTY = 99999999999999999999


def all_downs(places):
    """All down tables, ascending."""
    return [list(row) for row in itertools.product(*[range(k) for k in range(1, places + 1)])]


def all_ups(places):
    """All up tables, ascending."""
    return [list(row) for row in itertools.product(*[range(k + 1, places + 2) for k in range(1, places + 1)])]


def all_pairs(places):
    """All pairs, ascending."""
    return [(list(down), list(up)) for down in all_downs(places) for up in all_ups(places)]


def plain(places):
    return ([k - 1 for k in range(1, places + 1)], [places + 1] * places)


def totals(places):
    return ([0] * places, [k + 1 for k in range(1, places + 1)])


def by_powers(places):
    lows = [k & -k for k in range(1, places + 1)]
    down = [k - low for k, low in enumerate(lows, 1)]
    up = [min(k + low, places + 1) for k, low in enumerate(lows, 1)]
    return (down, up)


def mixed(places, seed):
    """Some pair, nearly never a right one."""
    some = random.Random(seed)
    down = [some.randint(0, k - 1) for k in range(1, places + 1)]
    up = [some.randint(k + 1, places + 1) for k in range(1, places + 1)]
    return (down, up)


def close(places, seed):
    """Some pair with short links, so that its walks are long and its counts great."""
    some = random.Random(seed)
    down = [some.randint(max(0, k - 2), k - 1) for k in range(1, places + 1)]
    up = [some.randint(k + 1, min(k + 2, places + 1)) for k in range(1, places + 1)]
    return (down, up)


def large_pairs():
    """Pairs for 5 to 16 places, right ones and others."""
    pairs = []
    for places in (5, 7, 8, 12, 15, 16):
        pairs += [plain(places), totals(places), by_powers(places)]
        # The greatest counts: every place is in every walk that may have it.
        pairs.append((plain(places)[0], totals(places)[1]))
        pairs.append((totals(places)[0], plain(places)[1]))
        for seed in range(3):
            pairs += [mixed(places, seed), close(places, seed)]
    return pairs


def some_pairs():
    """All pairs for 1 to 3 places, and the large ones."""
    return all_pairs(1) + all_pairs(2) + all_pairs(3) + large_pairs()


def rows_of_numbers(places):
    """Rows of so many numbers: small ones, nought, such below 0, of nineteen and twenty digits."""
    some = random.Random(places)
    unit_rows = [[int(k == at) for k in range(places)] for at in range(places)]
    return unit_rows + [
        [0] * places,
        [1] * places,
        [some.randint(-9, 9) for _ in range(places)],
        [some.choice([-1, 1]) * (NINETEEN - k) for k in range(places)],
        [some.choice([-1, 1]) * (TWENTY - k) for k in range(places)],
        [TWENTY] * places,
        [-TWENTY] * places,
    ]


def defined_walk(links, place, end):
    """The walk [6]."""
    link = links[place - 1]
    return [place] if link == end else [place] + defined_walk(links, link, end)


def defined_count(pair, first, second):
    """The count [8]."""
    down, up = pair
    below = set(defined_walk(down, first, 0))
    above = set(defined_walk(up, second, len(up) + 1))
    return len(below & above)


def defined_counts(pair):
    places = range(1, len(pair[0]) + 1)
    return [[defined_count(pair, i, j) for j in places] for i in places]


def defined_sum(pair, i, j):
    """The signed sum [15]."""
    down, up = pair
    both = sum(1 for k in range(len(down)) if up[k] == i and down[k] == j)
    return int(down[i - 1] == j) + int(up[j - 1] == i) - both


def defined_parting(pair, other):
    """The nearest places whose counts differ, of these those with the least second place."""
    ours, theirs = defined_counts(pair), defined_counts(other)
    places = range(1, len(ours) + 1)
    apart = [(i - j, j, i) for i in places for j in places if ours[i - 1][j - 1] != theirs[i - 1][j - 1]]
    if not apart:
        return None
    _, j, i = min(apart)
    return (i, j)


def moves_from(pair):
    """All pairs to which a move [17] leads, forward or back."""
    down, up = pair
    found = []
    for x, y in itertools.combinations(range(1, len(down) + 1), 2):
        new = copy.deepcopy(pair)
        if up[x - 1] == y and down[x - 1] == down[y - 1]:
            new[1][x - 1] = up[y - 1]
            new[0][y - 1] = x
            found.append(new)
        if up[x - 1] == up[y - 1] and down[y - 1] == x:
            new[1][x - 1] = y
            new[0][y - 1] = down[x - 1]
            found.append(new)
    return found


def lists_in(thing):
    """All lists within a thing, itself included, each as often as it stands there."""
    if not isinstance(thing, (list, tuple)):
        return []
    inner = [found for part in thing for found in lists_in(part)]
    return [thing] + inner if isinstance(thing, list) else inner
