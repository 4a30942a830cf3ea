"""The order of right pairs."""

from linksums.checks import check_number_of_places
from linksums.errors import NoWay, UnequalPairs
from linksums.moves import forward_moves, moved
from linksums.trees import check_right, depths, down_for, is_right, plain_pair, up_for


class Links:
    """A right pair, which forward moves lead to others."""

    def __init__(self, pair):
        check_right(pair)
        down, up = pair
        self._down = list(down)
        self._up = list(up)

    @classmethod
    def plain(cls, places):
        """Return the one whose cells are the values."""
        check_number_of_places(places)
        return cls(plain_pair(places))

    @classmethod
    def totals(cls, places):
        """Return the one whose cells are the totals."""
        check_number_of_places(places)
        return cls(([0] * places, list(range(2, places + 2))))

    @classmethod
    def by_powers(cls, places):
        """Return the one whose links go as far as the greatest power of two that divides the place."""
        check_number_of_places(places)
        steps = [(place, place & -place) for place in range(1, places + 1)]
        down = [place - power for place, power in steps]
        up = [min(place + power, places + 1) for place, power in steps]
        return cls((down, up))

    @staticmethod
    def fits(pair):
        """Tell whether a pair is right, so that there is such an object."""
        return is_right(pair)

    @property
    def pair(self):
        """The pair."""
        return (list(self._down), list(self._up))

    @property
    def down(self):
        """The down table."""
        return list(self._down)

    @property
    def up(self):
        """The up table."""
        return list(self._up)

    @property
    def places(self):
        """The places, those of lesser depth first, and those of the same depth ascending."""
        pair = (self._down, self._up)
        ranked = sorted([(depth, place) for place, depth in enumerate(depths(pair), 1)])
        return [place for _, place in ranked]

    def __len__(self):
        return len(self._down)

    def __eq__(self, other):
        return isinstance(other, Links) and self._down == other._down and self._up == other._up

    def leads_to(self, other):
        """Tell whether forward moves lead to another one, or it is the same pair."""
        self._check_as_many([other])
        return all([link <= most for link, most in zip(self._up, other._up)])

    def way_to(self, other):
        """Return forward moves that lead to another one, one after the other."""
        if not self.leads_to(other):
            raise NoWay()
        pair, moves = (self._down, self._up), []
        while pair[1] != other._up:
            move = _next_move(pair, other._up)
            moves.append(move)
            pair = moved(pair, move)
        return moves

    def __and__(self, other):
        return self.below(other)

    def __or__(self, other):
        return self.above(other)

    def below(self, *others):
        """Return the greatest one that leads to this one and to all the others."""
        self._check_as_many(others)
        up = self._up
        for other in others:
            up = [min(link, limit) for link, limit in zip(up, other._up)]
        return Links((down_for(up), up))

    def above(self, *others):
        """Return the least one to which this one and all the others lead."""
        self._check_as_many(others)
        down = self._down
        for other in others:
            down = [max(link, limit) for link, limit in zip(down, other._down)]
        return Links((down, up_for(down)))

    def _check_as_many(self, others):
        for other in others:
            if len(other) != len(self):
                raise UnequalPairs(len(self), len(other))


def _next_move(pair, most):
    """Return a forward move after which no up link is greater than the most it may be."""
    up = pair[1]
    # There is one as long as forward moves lead on, since none of them makes an up link less.
    near = [(lesser, greater) for lesser, greater in forward_moves(pair) if up[greater - 1] <= most[lesser - 1]]
    return near[0]
