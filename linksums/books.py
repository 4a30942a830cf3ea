"""Books: values and the cells that their totals are read from, the other use of cells, and grids."""

from linksums.checks import check_after, check_number, check_pair, check_place, check_values
from linksums.errors import NothingToUndo, UnequalPairs
from linksums.links import cells_of, walk_down, walk_up


class Book:
    """Values, and totals that are read from their cells by any pair."""

    def __init__(self, pair, values):
        check_pair(pair)
        down, up = pair
        check_values(values, len(down))
        self._down = list(down)
        self._up = list(up)
        self._values = list(values)
        self._cells = cells_of(up, values)
        self._looks = 0
        self._past = []

    @property
    def tables(self):
        """The pair."""
        return (list(self._down), list(self._up))

    @property
    def numbers(self):
        """The values."""
        return list(self._values)

    @property
    def cells(self):
        """The cells."""
        return list(self._cells)

    @property
    def looks(self):
        """The number of cells at which totals and changes have looked."""
        return self._looks

    def __len__(self):
        return len(self._values)

    def __iter__(self):
        raise TypeError("a book is not gone through: its places begin with 1")

    def __call__(self, place, after=0):
        """Return the total of a place less that of another one, or less 0."""
        check_place(place, len(self))
        check_after(after, len(self))
        ours = walk_down(self._down, place)
        theirs = walk_down(self._down, after) if after > 0 else []
        # The cells of places in both walks would be taken off again.
        more = [self._cells[reached - 1] for reached in ours if reached not in theirs]
        less = [self._cells[reached - 1] for reached in theirs if reached not in ours]
        self._looks += len(more) + len(less)
        return sum(more) - sum(less)

    def __getitem__(self, at):
        check_place(at, len(self))
        return self._values[at - 1]

    def __setitem__(self, at, worth):
        check_place(at, len(self))
        check_number(worth)
        self._keep()
        self._raise_value(at, worth - self._values[at - 1])

    def __iadd__(self, other):
        check_values(other, len(self))
        self._keep()
        for place, more in enumerate(other, 1):
            self._raise_value(place, more)
        return self

    def change(self, place, more):
        """Change the value at a place by more."""
        check_place(place, len(self))
        check_number(more)
        self._keep()
        self._raise_value(place, more)

    def turn(self, pair):
        """Take another pair for the same values, and return the places whose cells are other numbers then."""
        check_pair(pair)
        down, up = pair
        if len(down) != len(self):
            raise UnequalPairs(len(self), len(down))
        self._keep()
        old = self._cells
        self._down = list(down)
        self._up = list(up)
        self._cells = cells_of(up, self._values)
        return [place for place, (ahead, now) in enumerate(zip(old, self._cells), 1) if ahead != now]

    def undo(self):
        """Take back the last deed that was not taken back yet."""
        if not self._past:
            raise NothingToUndo()
        self._down, self._up, self._values, self._cells = self._past.pop()

    def _keep(self):
        # The tables are never changed themselves, so they need no copies.
        self._past.append((self._down, self._up, list(self._values), list(self._cells)))

    def _raise_value(self, place, more):
        walk = walk_up(self._up, place)
        self._values[place - 1] += more
        for reached in walk:
            self._cells[reached - 1] += more
        self._looks += len(walk)


class LateBook:
    """Cells that are used the other way round: what is added up to a place goes to a walk down."""

    def __init__(self, pair):
        check_pair(pair)
        down, up = pair
        self._down = list(down)
        self._up = list(up)
        self._cells = [0] * len(down)

    def raise_to(self, place, more):
        """Add more to the values at all places up to this one."""
        walk = walk_down(self._down, place)
        check_number(more)
        for reached in walk:
            self._cells[reached - 1] += more

    def at(self, place):
        """Return the value at a place."""
        return sum([self._cells[reached - 1] for reached in walk_up(self._up, place)])


class Grid:
    """Cells of two places, with a pair for the rows and one for the columns."""

    def __init__(self, pair, other):
        check_pair(pair)
        check_pair(other)
        self._row_down, self._row_up = list(pair[0]), list(pair[1])
        self._column_down, self._column_up = list(other[0]), list(other[1])
        self._cells = [[0] * len(other[0]) for _ in pair[0]]

    def change(self, row, column, more):
        """Change the value at two places by more."""
        rows = walk_up(self._row_up, row)
        columns = walk_up(self._column_up, column)
        check_number(more)
        for first in rows:
            for second in columns:
                self._cells[first - 1][second - 1] += more

    def total(self, row, column):
        """Return the total of two places."""
        rows = walk_down(self._row_down, row)
        columns = walk_down(self._column_down, column)
        return sum([self._cells[first - 1][second - 1] for first in rows for second in columns])
