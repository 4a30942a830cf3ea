"""Walks [6], cells [7], counts [8], values [32] and totals."""

import unittest

from linksums.links import cells_of, count, counts, total, values_of, walk_down, walk_up
from tests import samples


def places_of(pair):
    return range(1, len(pair[0]) + 1)


class Walks(unittest.TestCase):
    def test_one_place(self):
        self.assertEqual(walk_down([0], 1), [1])
        self.assertEqual(walk_up([2], 1), [1])

    def test_known_walks(self):
        down, up = [0, 0, 2, 0, 4], [2, 4, 4, 6, 6]
        self.assertEqual([walk_down(down, k) for k in range(1, 6)], [[1], [2], [3, 2], [4], [5, 4]])
        self.assertEqual([walk_up(up, k) for k in range(1, 6)], [[1, 2, 4], [2, 4], [3, 4], [4], [5]])

    def test_sixteen_places(self):
        down, up = samples.plain(16)[0], samples.totals(16)[1]
        self.assertEqual(walk_down(down, 16), list(range(16, 0, -1)))
        self.assertEqual(walk_up(up, 1), list(range(1, 17)))
        down, up = samples.by_powers(16)
        self.assertEqual(walk_down(down, 15), [15, 14, 12, 8])
        self.assertEqual(walk_down(down, 16), [16])
        self.assertEqual(walk_up(up, 1), [1, 2, 4, 8, 16])
        self.assertEqual(walk_up(up, 16), [16])

    def test_walks_are_as_defined(self):
        for pair in samples.some_pairs():
            down, up = pair
            for place in places_of(pair):
                with self.subTest(pair=pair, place=place):
                    self.assertEqual(walk_down(down, place), samples.defined_walk(down, place, 0))
                    self.assertEqual(walk_up(up, place), samples.defined_walk(up, place, len(up) + 1))

    def test_a_walk_is_a_list_of_numbers(self):
        for walk in (walk_down([0, 1], 2), walk_up([2, 3], 1)):
            self.assertIs(type(walk), list)
            self.assertEqual([type(place) for place in walk], [int, int])


class Counts(unittest.TestCase):
    def test_one_place(self):
        self.assertEqual(count(([0], [2]), 1, 1), 1)
        self.assertEqual(counts(([0], [2])), [[1]])

    def test_a_pair_that_is_not_right(self):
        pair = ([0, 1, 0], [2, 3, 4])
        self.assertEqual(counts(pair), [[1, 0, 0], [2, 1, 0], [1, 1, 1]])
        self.assertEqual([count(pair, 2, 1), count(pair, 3, 1), count(pair, 1, 3)], [2, 1, 0])

    def test_a_count_of_nought(self):
        self.assertEqual(counts(([0, 0], [3, 3])), [[1, 0], [0, 1]])
        self.assertEqual(count(([0, 0], [3, 3]), 2, 1), 0)

    def test_all_counts_of_right_pairs_are_1(self):
        for places in range(1, 17):
            for pair in (samples.plain(places), samples.totals(places), samples.by_powers(places)):
                with self.subTest(pair=pair):
                    self.assertEqual(counts(pair), [[1] * i + [0] * (places - i) for i in range(1, places + 1)])

    def test_greatest_counts(self):
        pair = (samples.plain(16)[0], samples.totals(16)[1])
        wanted = [[max(0, i - j + 1) for j in range(1, 17)] for i in range(1, 17)]
        self.assertEqual(counts(pair), wanted)
        self.assertEqual(count(pair, 16, 1), 16)

    def test_counts_are_as_defined(self):
        for pair in samples.some_pairs():
            with self.subTest(pair=pair):
                wanted = samples.defined_counts(pair)
                self.assertEqual(counts(pair), wanted)
                single = [[count(pair, i, j) for j in places_of(pair)] for i in places_of(pair)]
                self.assertEqual(single, wanted)

    def test_bounds_of_counts(self):
        for pair in samples.some_pairs():
            for i in places_of(pair):
                for j in places_of(pair):
                    with self.subTest(pair=pair, i=i, j=j):
                        found = count(pair, i, j)
                        self.assertIs(type(found), int)
                        self.assertTrue(0 <= found <= max(0, i - j + 1))
                        self.assertTrue(i != j or found == 1)

    def test_counts_are_lists_of_lists_of_numbers(self):
        rows = counts(([0, 0, 2], [2, 4, 4]))
        self.assertIs(type(rows), list)
        for row in rows:
            self.assertIs(type(row), list)
            self.assertEqual({type(number) for number in row}, {int})


class CellsAndValues(unittest.TestCase):
    def test_one_place(self):
        for value in (0, 7, -7, samples.TWENTY, -samples.TWENTY):
            self.assertEqual(cells_of([2], [value]), [value])
            self.assertEqual(values_of([2], [value]), [value])

    def test_known_cells(self):
        up = [2, 4, 4, 6, 6]
        self.assertEqual(cells_of(up, [3, 1, 4, 1, 5]), [3, 4, 4, 9, 5])
        self.assertEqual(values_of(up, [3, 4, 4, 9, 5]), [3, 1, 4, 1, 5])
        self.assertEqual(cells_of([3, 3, 4], [-1, 5, -7]), [-1, 5, -3])
        self.assertEqual(values_of([3, 3, 4], [-1, 5, -3]), [-1, 5, -7])

    def test_numbers_of_twenty_digits(self):
        great = samples.TWENTY
        self.assertEqual(cells_of([2, 3, 4], [great, great, -1]), [great, 2 * great, 2 * great - 1])
        self.assertEqual(values_of([2, 3, 4], [great, -great, great]), [great, -2 * great, 2 * great])

    def test_sixteen_places(self):
        self.assertEqual(cells_of(samples.totals(16)[1], [1] * 16), list(range(1, 17)))
        self.assertEqual(values_of(samples.totals(16)[1], list(range(1, 17))), [1] * 16)
        self.assertEqual(cells_of(samples.by_powers(16)[1], [1] * 16), [k & -k for k in range(1, 17)])

    def test_cells_are_as_defined(self):
        for pair in samples.some_pairs():
            up = pair[1]
            for values in samples.rows_of_numbers(len(up)):
                with self.subTest(up=up, values=values):
                    cells = [0] * len(up)
                    for place in places_of(pair):
                        for reached in samples.defined_walk(up, place, len(up) + 1):
                            cells[reached - 1] += values[place - 1]
                    self.assertEqual(cells_of(up, values), cells)

    def test_values_are_as_defined(self):
        for pair in samples.some_pairs():
            up = pair[1]
            for cells in samples.rows_of_numbers(len(up)):
                with self.subTest(up=up, cells=cells):
                    wanted = []
                    for j in places_of(pair):
                        under = [cells[k - 1] for k in places_of(pair) if up[k - 1] == j]
                        wanted.append(cells[j - 1] - sum(under))
                    self.assertEqual(values_of(up, cells), wanted)

    def test_each_takes_back_the_other(self):
        ups = [up for places in range(1, 5) for up in samples.all_ups(places)]
        for up in ups + [pair[1] for pair in samples.large_pairs()]:
            for row in samples.rows_of_numbers(len(up)):
                with self.subTest(up=up, row=row):
                    self.assertEqual(values_of(up, cells_of(up, row)), row)
                    self.assertEqual(cells_of(up, values_of(up, row)), row)


class Totals(unittest.TestCase):
    def test_one_place(self):
        self.assertEqual(total([0], [-samples.TWENTY], 1), -samples.TWENTY)

    def test_known_totals(self):
        cells = [3, 4, 4, 9, 5]
        self.assertEqual([total([0, 0, 2, 0, 4], cells, k) for k in range(1, 6)], [3, 4, 8, 9, 14])

    def test_numbers_of_twenty_digits(self):
        great = samples.TWENTY
        self.assertEqual(total([0, 1, 2], [great, great, great], 3), 3 * great)
        self.assertEqual(total([0, 1, 1], [great, 1, -great], 3), 0)
        self.assertEqual(total([0, 1], [-samples.NINETEEN, -great], 2), -samples.NINETEEN - great)

    def test_a_total_is_the_sum_of_the_cells_in_the_walk(self):
        for pair in samples.some_pairs():
            down = pair[0]
            for cells in samples.rows_of_numbers(len(down)):
                for place in places_of(pair):
                    with self.subTest(down=down, cells=cells, place=place):
                        wanted = sum(cells[k - 1] for k in samples.defined_walk(down, place, 0))
                        self.assertEqual(total(down, cells, place), wanted)

    def test_a_total_counts_each_value_as_the_counts_say(self):
        for pair in samples.some_pairs():
            often = samples.defined_counts(pair)
            for values in samples.rows_of_numbers(len(pair[0])):
                cells = cells_of(pair[1], values)
                for place in places_of(pair):
                    with self.subTest(pair=pair, values=values, place=place):
                        wanted = sum(many * value for many, value in zip(often[place - 1], values))
                        self.assertEqual(total(pair[0], cells, place), wanted)

    def test_right_pairs_tell_running_totals(self):
        for pair in (samples.plain(16), samples.totals(16), samples.by_powers(16)):
            for values in samples.rows_of_numbers(16):
                cells = cells_of(pair[1], values)
                for place in range(1, 17):
                    with self.subTest(pair=pair, values=values, place=place):
                        self.assertEqual(total(pair[0], cells, place), sum(values[:place]))


if __name__ == "__main__":
    unittest.main()
