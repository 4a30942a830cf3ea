"""Moves: two links are changed, and the pair answers as before."""

from linksums.checks import check_pair, is_whole
from linksums.errors import NoMove


def forward_moves(pair):
    """Return the tuples (x, y) of the forward moves of a pair, ascending."""
    check_pair(pair)
    down, up = pair
    inner = [(lesser, greater) for lesser, greater in enumerate(up, 1) if greater <= len(up)]
    return [(lesser, greater) for lesser, greater in inner if down[lesser - 1] == down[greater - 1]]


def back_moves(pair):
    """Return the tuples (x, y) of the back moves of a pair, ascending."""
    check_pair(pair)
    down, up = pair
    inner = [(lesser, greater) for greater, lesser in enumerate(down, 1) if lesser >= 1]
    return sorted([(lesser, greater) for lesser, greater in inner if up[lesser - 1] == up[greater - 1]])


def moved(pair, move):
    """Return the pair after a forward or a back move."""
    check_pair(pair)
    if not _is_two_numbers(move):
        raise NoMove(move)
    lesser, greater = move
    down, up = list(pair[0]), list(pair[1])
    if (lesser, greater) in forward_moves(pair):
        up[lesser - 1] = up[greater - 1]
        down[greater - 1] = lesser
    elif (lesser, greater) in back_moves(pair):
        up[lesser - 1] = greater
        down[greater - 1] = down[lesser - 1]
    else:
        raise NoMove(move)
    return (down, up)


def _is_two_numbers(thing):
    return isinstance(thing, tuple) and len(thing) == 2 and is_whole(thing[0]) and is_whole(thing[1])
