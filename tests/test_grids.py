"""Late books [33] and grids [35]."""

import copy
import itertools
import random
import unittest

from linksums.books import Grid, LateBook
from linksums.errors import InvalidNumber, InvalidPair, UnknownPlace
from linksums.trees import is_right
from tests import samples
from tests.wrong_things import NO_NUMBERS, NoWholeThing, Raising, no_two_tables, wrong_downs, wrong_ups

PAIR = ([0, 1, 0], [2, 3, 4])
RIGHT = ([0, 0, 2], [2, 4, 4])
TWO = ([0, 0], [2, 3])
NO_PLACES = NO_NUMBERS + [NoWholeThing(), 0, -1, 17, samples.TWENTY, -samples.TWENTY, PAIR]


def some_grids():
    """Tuples of two pairs, also for unlike numbers of places."""
    small = samples.all_pairs(1) + samples.all_pairs(2)
    large = [samples.mixed(4, 1), samples.close(5, 2), samples.by_powers(7), samples.totals(3), samples.plain(6)]
    return list(itertools.product(small, samples.all_pairs(3)[::5])) + list(itertools.product(large, large + small))


def grid_values(rows, columns, seed):
    """Changes (row, column, more) of a grid with so many rows and columns, and the values after them."""
    some = random.Random(seed)
    changes = [(some.randint(1, rows), some.randint(1, columns), some.choice([1, -4, 30, samples.TWENTY]))
               for _ in range(5)]
    values = {}
    for row, column, more in changes:
        values[row, column] = values.get((row, column), 0) + more
    return changes, values


class LateBooks(unittest.TestCase):
    def test_known_books(self):
        book = LateBook(PAIR)
        self.assertEqual([book.at(k) for k in (1, 2, 3)], [0, 0, 0])
        self.assertIsNone(book.raise_to(2, 5))
        # The pair counts the first place twice in the total of the second one.
        self.assertEqual([book.at(k) for k in (1, 2, 3)], [10, 5, 0])
        book = LateBook(RIGHT)
        book.raise_to(2, 5)
        book.raise_to(3, 1)
        self.assertEqual([book.at(k) for k in (1, 2, 3)], [6, 6, 1])

    def test_held_against_the_counts(self):
        for pair in samples.some_pairs():
            rows, places = samples.defined_counts(pair), len(pair[0])
            some = random.Random(places)
            book, wanted = LateBook(pair), [0] * places
            for _ in range(6):
                place, more = some.randint(1, places), some.choice([1, -7, samples.TWENTY])
                self.assertIsNone(book.raise_to(place, more))
                wanted = [value + more * often for value, often in zip(wanted, rows[place - 1])]
                with self.subTest(pair=pair):
                    self.assertEqual([book.at(k) for k in range(1, places + 1)], wanted)

    def test_right_pairs_raise_just_the_values_up_to_the_place(self):
        for pair in samples.some_right_pairs():
            places = len(pair[0])
            for place in range(1, places + 1):
                book = LateBook(pair)
                book.raise_to(place, 9)
                with self.subTest(pair=pair, place=place):
                    self.assertEqual([book.at(k) for k in range(1, places + 1)], [9] * place + [0] * (places - place))

    def test_by_name(self):
        book = LateBook(pair=RIGHT)
        self.assertIsNone(book.raise_to(more=3, place=2))
        self.assertIsNone(book.raise_to(3, more=1))
        self.assertEqual((book.at(place=1), book.at(3)), (4, 1))

    def test_what_is_passed_in_stays_as_it_was_and_may_change_later(self):
        pair = copy.deepcopy(RIGHT)
        book = LateBook(pair)
        book.raise_to(2, 5)
        self.assertEqual(pair, RIGHT)
        pair[0].clear()
        pair[1][0] = 4
        book.raise_to(3, 1)
        self.assertEqual([book.at(k) for k in (1, 2, 3)], [6, 6, 1])

    def test_two_books_do_not_touch_each_other(self):
        one, two = LateBook(RIGHT), LateBook(RIGHT)
        one.raise_to(3, 4)
        self.assertEqual([two.at(k) for k in (1, 2, 3)], [0, 0, 0])


class Grids(unittest.TestCase):
    def test_known_grid(self):
        grid = Grid(PAIR, TWO)
        self.assertEqual([grid.total(row, column) for row in (1, 2, 3) for column in (1, 2)], [0] * 6)
        self.assertIsNone(grid.change(1, 2, 5))
        self.assertEqual([grid.total(row, column) for row in (1, 2, 3) for column in (1, 2)], [0, 5, 0, 10, 0, 5])
        grid = Grid(TWO, RIGHT)
        grid.change(1, 3, 2)
        grid.change(2, 1, 7)
        self.assertEqual([[grid.total(row, column) for column in (1, 2, 3)] for row in (1, 2)], [[0, 0, 2], [7, 7, 9]])

    def test_held_against_the_counts(self):
        for pair, other in some_grids():
            rows, columns = len(pair[0]), len(other[0])
            ours, theirs = samples.defined_counts(pair), samples.defined_counts(other)
            changes, values = grid_values(rows, columns, len(ours) + len(theirs))
            grid = Grid(pair, other)
            for row, column, more in changes:
                self.assertIsNone(grid.change(row, column, more))
            for i, a in itertools.product(range(1, rows + 1), range(1, columns + 1)):
                wanted = sum(ours[i - 1][j - 1] * theirs[a - 1][b - 1] * value for (j, b), value in values.items())
                with self.subTest(pair=pair, other=other, i=i, a=a):
                    self.assertEqual(grid.total(i, a), wanted)

    def test_all_totals_are_right_exactly_if_both_pairs_are(self):
        for pair, other in some_grids():
            rows, columns = range(1, len(pair[0]) + 1), range(1, len(other[0]) + 1)
            grid = Grid(pair, other)
            for number, (row, column) in enumerate(itertools.product(rows, columns)):
                grid.change(row, column, 100 ** number)
            right = all(grid.total(i, a) == sum(100 ** ((j - 1) * len(columns) + b - 1)
                                                for j in rows for b in columns if j <= i and b <= a)
                        for i in rows for a in columns)
            with self.subTest(pair=pair, other=other):
                self.assertEqual(right, is_right(pair) and is_right(other))

    def test_sixteen_rows_and_columns(self):
        grid = Grid(samples.plain(16), samples.totals(16))
        for row, column in itertools.product(range(1, 17), repeat=2):
            grid.change(row, column, 1)
        self.assertEqual([grid.total(16, 16), grid.total(3, 5), grid.total(1, 16)], [256, 15, 16])

    def test_by_name(self):
        one, two = Grid(other=TWO, pair=RIGHT), Grid(RIGHT, TWO)
        self.assertIsNone(one.change(more=3, column=1, row=2))
        self.assertIsNone(two.change(2, 1, 3))
        self.assertEqual(one.total(column=2, row=3), two.total(3, 2))
        self.assertEqual(one.total(3, column=2), 3)

    def test_what_is_passed_in_stays_as_it_was_and_may_change_later(self):
        pair, other = copy.deepcopy(RIGHT), copy.deepcopy(TWO)
        grid = Grid(pair, other)
        grid.change(1, 1, 5)
        self.assertEqual((pair, other), (RIGHT, TWO))
        for table in (*pair, *other):
            table[0] = "changed"
            table.clear()
        grid.change(2, 2, 1)
        self.assertEqual([grid.total(3, 1), grid.total(3, 2)], [5, 6])

    def test_one_pair_for_both(self):
        grid = Grid(RIGHT, RIGHT)
        grid.change(1, 2, 5)
        self.assertEqual([grid.total(1, 2), grid.total(2, 1)], [5, 0])

    def test_two_grids_do_not_touch_each_other(self):
        one, two = Grid(RIGHT, TWO), Grid(RIGHT, TWO)
        one.change(1, 1, 4)
        self.assertEqual([two.total(row, column) for row in (1, 2, 3) for column in (1, 2)], [0] * 6)


class WrongArguments(Raising):
    def test_places_of_late_books(self):
        for thing in NO_PLACES + [4]:
            book = LateBook(RIGHT)
            book.raise_to(3, 1)
            with self.subTest(thing=type(thing)):
                for call in (lambda: book.raise_to(thing, None), lambda: book.at(thing)):
                    self.assertIs(self.raised(UnknownPlace, call).place, thing)
                self.assertEqual([book.at(k) for k in (1, 2, 3)], [1, 1, 1])

    def test_numbers_of_late_books(self):
        for thing in NO_NUMBERS + [NoWholeThing()]:
            book = LateBook(RIGHT)
            with self.subTest(thing=type(thing)):
                self.assertIs(self.raised(InvalidNumber, book.raise_to, 3, thing).number, thing)
                self.assertEqual([book.at(k) for k in (1, 2, 3)], [0, 0, 0])

    def test_places_of_grids(self):
        for thing in NO_PLACES:
            grid = Grid(PAIR, TWO)
            with self.subTest(thing=type(thing)):
                for call in (lambda: grid.change(thing, None, None), lambda: grid.change(3, thing, None),
                             lambda: grid.total(thing, None), lambda: grid.total(3, thing),
                             lambda: grid.change(more=None, column=0, row=thing)):
                    self.assertIs(self.raised(UnknownPlace, call).place, thing)
                self.check_empty(grid)

    def test_each_pair_has_its_own_places(self):
        grid = Grid(PAIR, TWO)
        self.assertEqual(self.raised(UnknownPlace, grid.total, 4, 3).place, 4)
        self.assertEqual(self.raised(UnknownPlace, grid.total, 3, 3).place, 3)
        self.assertEqual(self.raised(UnknownPlace, grid.change, 4, 3, 1).place, 4)
        self.assertEqual(self.raised(UnknownPlace, grid.change, 3, 3, 1).place, 3)
        self.assertEqual(Grid(TWO, PAIR).total(2, 3), 0)

    def test_numbers_of_grids(self):
        for thing in NO_NUMBERS + [NoWholeThing()]:
            grid = Grid(PAIR, TWO)
            with self.subTest(thing=type(thing)):
                self.assertIs(self.raised(InvalidNumber, grid.change, 3, 2, thing).number, thing)
                self.check_empty(grid)

    def test_pairs(self):
        for thing in no_two_tables():
            self.check_pair_error(None, None, LateBook, thing)
            self.check_pair_error(None, None, Grid, thing, ([1], [1]))
            self.check_pair_error(None, None, Grid, PAIR, thing)
        for down, place in wrong_downs():
            pair = (down, [len(down) + 1] * len(down))
            self.check_pair_error("down", place, LateBook, pair)
            self.check_pair_error("down", place, Grid, pair, None)
            self.check_pair_error("down", place, Grid, PAIR, pair)
        for up, place in wrong_ups():
            pair = ([0] * len(up), up)
            self.check_pair_error("up", place, LateBook, pair)
            self.check_pair_error("up", place, Grid, pair, None)
            self.check_pair_error("up", place, Grid, PAIR, pair)
        with self.assertRaises(InvalidPair) as caught:
            Grid(other=None, pair=([1], [1]))
        self.assertEqual(caught.exception.table, "down")

    def check_empty(self, grid):
        self.assertEqual([grid.total(row, column) for row in (1, 2, 3) for column in (1, 2)], [0] * 6)


if __name__ == "__main__":
    unittest.main()
