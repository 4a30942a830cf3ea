"""The numbers of right pairs, and the right pairs by their numbers."""

from math import comb

from linksums.checks import MOST_PLACES, check_number, check_number_between, check_number_of_places, is_whole
from linksums.errors import InvalidNumber
from linksums.trees import check_right, down_links, pair_of

# With more places the right pairs have too many different sums of walks.
MOST_LOOKED_AT = 9


def count_right(places):
    """Return the number of right pairs."""
    check_number_of_places(places)
    return _many(places)


def right_pairs(places, *, start=0):
    """Yield the right pairs in the order of their up tables, from the one with the number start on."""
    check_number_of_places(places)
    if not is_whole(start) or start < 0:
        raise InvalidNumber(start)
    up = _up_at(start, places, 0) if start < _many(places) else None
    while up is not None:
        # A copy, since the next table is found by this one.
        yield (down_links(up), list(up))
        up = _next_up(up)


def pair_number(pair):
    """Return the number of right pairs that come before a right pair."""
    check_right(pair)
    return _number_of(pair[1], 0)


def numbered_pair(places, number):
    """Return the right pair with this number."""
    check_number_of_places(places)
    check_number_between(number, 0, _many(places) - 1)
    up = _up_at(number, places, 0)
    return (down_links(up), up)


def count_within(places, down_most, up_most):
    """Return the number of right pairs in which no walk has more places than it may have."""
    check_number_of_places(places)
    _check_mosts(down_most, up_most)
    found = {}
    for down in range(down_most + 1):
        for up in range(up_most + 1):
            found[down, up] = [1] + [0] * places
            if down > 0 and up > 0:
                found[down, up] = _combined(found[down, up - 1], found[down - 1, up])
    return found[down_most, up_most][places]


def most_places(down_most, up_most):
    """Return the greatest number of places of a right pair in which no walk has more places than it may have."""
    _check_mosts(down_most, up_most)
    return _most(down_most, up_most)


def fullest_pair(down_most, up_most):
    """Return the right pair that has the greatest number of places."""
    places = most_places(down_most, up_most)
    if places > MOST_PLACES:
        raise InvalidNumber(places)
    return pair_of(_fullest_tree(0, down_most, up_most))


def count_by_looks(places, down_all, up_all):
    """Return the number of right pairs whose walks down, and whose walks up, have together so many places."""
    check_number_between(places, 1, MOST_LOOKED_AT)
    check_number(down_all)
    check_number(up_all)
    tables = [{(0, 0): 1}]
    for _ in range(places):
        tables.append(_next_looks(tables))
    return tables[places].get((down_all, up_all), 0)


def _many(places):
    return comb(2 * places, places) // (places + 1)


def _most(down_most, up_most):
    return comb(down_most + up_most, down_most) - 1


def _check_mosts(down_most, up_most):
    check_number_between(down_most, 1, MOST_PLACES)
    check_number_between(up_most, 1, MOST_PLACES)


def _up_at(number, places, ahead):
    """Return the up links with this number of so many places that stand behind others."""
    if places == 0:
        return []
    # The places between the first one and its link have links up to it, so they stand alone, as the others do.
    within, beyond = 0, places - 1
    while number >= _many(within) * _many(beyond):
        number -= _many(within) * _many(beyond)
        within, beyond = within + 1, beyond - 1
    behind = ahead + 1 + within
    inner, outer = divmod(number, _many(beyond))
    return [behind + 1] + _up_at(inner, within, ahead + 1) + _up_at(outer, beyond, behind)


def _number_of(up, ahead):
    """Return the number of the up links of places that stand behind others."""
    if not up:
        return 0
    within = up[0] - ahead - 2
    behind = ahead + 1 + within
    beyond = len(up) - 1 - within
    lesser = sum([_many(fewer) * _many(len(up) - 1 - fewer) for fewer in range(within)])
    inner = _number_of(up[1:within + 1], ahead + 1)
    return lesser + inner * _many(beyond) + _number_of(up[within + 1:], behind)


def _next_up(up):
    """Return the up table of the next right pair, or None behind the last one."""
    for place in range(len(up), 0, -1):
        link = up[place - 1]
        if link < _most_link(up, place):
            return up[:place - 1] + [link + 1] + list(range(place + 2, len(up) + 2))
    return None


def _most_link(up, place):
    """Return the greatest link of a place that goes with the links of the lesser places."""
    return min([link for link in up[:place - 1] if link > place], default=len(up) + 1)


def _combined(lefts, rights):
    """Return the number of trees for each number of places, by those of their left and right subtrees."""
    found = [1]
    for below in range(len(lefts) - 1):
        found.append(sum([lefts[left] * rights[below - left] for left in range(below + 1)]))
    return found


def _fullest_tree(ahead, down_most, up_most):
    """Return the fullest tree of places that stand behind others."""
    if down_most == 0 or up_most == 0:
        return None
    # The root is in the walks up from all places to its left, and in the walks down from all to its right.
    root = ahead + _most(down_most, up_most - 1) + 1
    return (_fullest_tree(ahead, down_most, up_most - 1), root, _fullest_tree(root, down_most - 1, up_most))


def _next_looks(tables):
    """Return how many trees of one place more there are for each two sums of walks, by the smaller trees."""
    places = len(tables)
    found = {}
    for left in range(places):
        right = places - 1 - left
        for (left_down, left_up), left_many in tables[left].items():
            for (right_down, right_up), right_many in tables[right].items():
                # The root is in its own walks, in the walks up from its left and in those down from its right.
                looks = (left_down + right_down + right + 1, left_up + right_up + left + 1)
                found[looks] = found.get(looks, 0) + left_many * right_many
    return found
