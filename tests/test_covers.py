"""Covers [19], and the right answers from any pair [20]."""

import unittest

from linksums.covers import covers, right_changes, right_totals, values_by_totals
from linksums.links import cells_of, counts, total
from linksums.signs import are_alike
from linksums.trees import is_right
from tests import samples

# How the doc's example pair covers: the stretch from 1 to 3 never, that from 2 to 3 twice.
EXAMPLE = ([0, 1, 1], [3, 4, 4])
MORE = [0, 1, -1, 7, -samples.NINETEEN, samples.TWENTY]


def triangle(places):
    """Covers, or counts, that are all 1."""
    return [[1] * i + [0] * (places - i) for i in range(1, places + 1)]


def stretches(places):
    """All tuples of the last and the first place of a stretch."""
    return [(i, j) for i in range(1, places + 1) for j in range(1, i + 1)]


class Covers(unittest.TestCase):
    def test_one_place(self):
        self.assertEqual(covers(([0], [2])), [[1]])

    def test_known_covers(self):
        self.assertEqual(covers(EXAMPLE), [[1, 0, 0], [1, 1, 0], [0, 2, 1]])
        self.assertEqual(covers(([0, 0], [3, 3])), [[1, 0], [2, 1]])
        self.assertEqual(covers(([0, 1], [2, 3])), [[1, 0], [0, 1]])
        self.assertEqual(covers(([0, 1, 0], [2, 3, 4])), [[1, 0, 0], [0, 1, 0], [1, 1, 1]])

    def test_the_covers_of_right_pairs(self):
        for pair in samples.some_right_pairs():
            with self.subTest(pair=pair):
                self.assertEqual(covers(pair), triangle(len(pair[0])))

    def test_greatest_and_least_covers(self):
        every = (samples.totals(16)[0], samples.plain(16)[1])
        self.assertEqual(covers(every), [[max(0, i - j + 1) for j in range(1, 17)] for i in range(1, 17)])
        none = (samples.plain(16)[0], samples.totals(16)[1])
        self.assertEqual(covers(none), [[int(i == j) for j in range(1, 17)] for i in range(1, 17)])

    def test_covers_are_as_defined(self):
        for pair in samples.some_pairs() + samples.all_pairs(4):
            with self.subTest(pair=pair):
                self.assertEqual(covers(pair), samples.defined_covers(pair))

    def test_they_tell_whether_a_pair_is_right(self):
        found = set()
        for pair in samples.some_pairs() + samples.all_pairs(4) + samples.some_right_pairs():
            with self.subTest(pair=pair):
                right = counts(pair) == triangle(len(pair[0]))
                self.assertEqual(covers(pair) == triangle(len(pair[0])), right)
                found.add(right)
        self.assertEqual(found, {True, False})

    def test_they_tell_whether_pairs_are_alike(self):
        for places in (1, 2, 3):
            for pair in samples.all_pairs(places):
                for other in samples.all_pairs(places):
                    with self.subTest(pair=pair, other=other):
                        self.assertEqual(covers(pair) == covers(other), are_alike(pair, other))

    def test_they_tell_whether_pairs_of_four_places_are_alike(self):
        by_covers, by_counts = {}, {}
        for number, pair in enumerate(samples.all_pairs(4)):
            by_covers.setdefault(str(covers(pair)), []).append(number)
            by_counts.setdefault(str(counts(pair)), []).append(number)
        self.assertEqual(list(by_covers.values()), list(by_counts.values()))

    def test_they_tell_whether_a_pair_never_misses(self):
        for pair in samples.some_pairs() + samples.all_pairs(4):
            places = len(pair[0])
            often, seen = samples.defined_counts(pair), covers(pair)
            never = all(often[i - 1][j - 1] >= 1 for i, j in stretches(places))
            with self.subTest(pair=pair):
                self.assertEqual(all(cover <= 1 for row in seen for cover in row), never)
                if never:
                    areas = [(k - down) * (up - k) for k, (down, up) in enumerate(zip(*pair), 1)]
                    self.assertEqual(sum(areas) == places * (places + 1) // 2, is_right(pair))

    def test_the_nearest_wrong_counts_and_their_covers(self):
        for pair in samples.some_pairs() + samples.all_pairs(4):
            often, seen = counts(pair), covers(pair)
            wrong = [(i - j, i, j) for i, j in stretches(len(often)) if often[i - 1][j - 1] != 1]
            for gap, i, j in wrong:
                if gap == min(wrong)[0]:
                    with self.subTest(pair=pair, i=i, j=j):
                        both = (often[i - 1][j - 1], seen[i - 1][j - 1])
                        self.assertIn(both, [(0, 2), (2, 0)])

    def test_covers_are_lists_of_lists_of_numbers(self):
        rows = covers(EXAMPLE)
        self.assertIs(type(rows), list)
        for row in rows:
            self.assertIs(type(row), list)
            self.assertEqual({type(number) for number in row}, {int})


class RightTotals(unittest.TestCase):
    def test_one_place(self):
        for value in (0, 7, -samples.TWENTY):
            self.assertEqual(right_totals(([0], [2]), [value]), [value])
            self.assertEqual(values_by_totals(([0], [2]), [value]), [value])

    def test_known_totals(self):
        # For the values 5, 3 and 7 the pair tells 5, 8 and 7 + 5 + 5 = 17.
        self.assertEqual(samples.told_totals(EXAMPLE, [5, 3, 7]), [5, 8, 17])
        self.assertEqual(right_totals(EXAMPLE, [5, 8, 17]), [5, 8, 15])
        self.assertEqual(values_by_totals(EXAMPLE, [5, 8, 17]), [5, 3, 7])
        self.assertEqual(right_totals(([0, 0], [3, 3]), [-4, 9]), [-4, 5])
        self.assertEqual(values_by_totals(([0, 0], [3, 3]), [-4, 9]), [-4, 9])

    def test_held_against_the_values(self):
        for pair in samples.some_pairs() + samples.some_right_pairs():
            for values in samples.rows_of_numbers(len(pair[0])):
                told = samples.told_totals(pair, values)
                with self.subTest(pair=pair, values=values):
                    self.assertEqual(values_by_totals(pair, told), values)
                    self.assertEqual(right_totals(pair, told), samples.up_to(values))

    def test_held_against_the_values_for_all_pairs_of_four_places(self):
        values = [3, -1, samples.NINETEEN, -5]
        for pair in samples.all_pairs(4):
            told = [total(pair[0], cells_of(pair[1], values), k) for k in range(1, 5)]
            with self.subTest(pair=pair):
                self.assertEqual(values_by_totals(pair, told), values)
                self.assertEqual(right_totals(pair, told), samples.up_to(values))

    def test_any_totals_come_from_these_values(self):
        for pair in samples.some_pairs():
            for told in samples.rows_of_numbers(len(pair[0])):
                values = values_by_totals(pair, told)
                with self.subTest(pair=pair, told=told):
                    self.assertEqual(samples.told_totals(pair, values), told)
                    self.assertEqual(right_totals(pair, told), samples.up_to(values))

    def test_the_totals_of_right_pairs_are_right(self):
        for pair in samples.some_right_pairs():
            for told in samples.rows_of_numbers(len(pair[0])):
                with self.subTest(pair=pair):
                    found = right_totals(pair, told)
                    self.assertEqual(found, told)
                    self.assertIsNot(found, told)

    def test_they_are_lists_of_numbers(self):
        for found in (right_totals(EXAMPLE, [1, 2, 3]), values_by_totals(EXAMPLE, [1, 2, 3])):
            self.assertIs(type(found), list)
            self.assertEqual([type(number) for number in found], [int, int, int])


class RightChanges(unittest.TestCase):
    def test_one_place(self):
        for more in MORE:
            self.assertEqual(right_changes(([0], [2]), 1, more), [more])

    def test_known_changes(self):
        self.assertEqual(right_changes(EXAMPLE, 1, 1), [1, 0, -1])
        self.assertEqual(right_changes(EXAMPLE, 2, -3), [0, -3, -3])
        self.assertEqual(right_changes(EXAMPLE, 3, 4), [0, 0, 4])
        self.assertEqual(right_changes(EXAMPLE, 1, 0), [0, 0, 0])

    def test_held_against_the_totals_before_and_after(self):
        for pair in samples.some_pairs() + samples.all_pairs(4)[::5]:
            places = len(pair[0])
            values = [7 - 3 * k for k in range(places)]
            before = samples.told_totals(pair, values)
            for place in range(1, places + 1):
                for more in (0, 5, -samples.NINETEEN):
                    changes = right_changes(pair, place, more)
                    after = samples.told_totals(pair, [value + change for value, change in zip(values, changes)])
                    wanted = [told + more if k >= place else told for k, told in enumerate(before, 1)]
                    with self.subTest(pair=pair, place=place, more=more):
                        self.assertEqual(after, wanted)
                        self.assertEqual(changes[:place - 1], [0] * (place - 1))

    def test_they_are_as_the_covers_say(self):
        for pair in samples.some_pairs():
            places = len(pair[0])
            for j in range(1, places + 1):
                for more in MORE:
                    covered = [samples.defined_cover(pair, k, j) - samples.defined_cover(pair, k - 1, j)
                               for k in range(j, places + 1)]
                    with self.subTest(pair=pair, j=j, more=more):
                        wanted = [0] * (j - 1) + [more * often for often in covered]
                        self.assertEqual(right_changes(pair, j, more), wanted)

    def test_right_pairs_need_one_change(self):
        for pair in samples.some_right_pairs():
            places = len(pair[0])
            for place in range(1, places + 1):
                wanted = [0] * places
                wanted[place - 1] = -6
                with self.subTest(pair=pair, place=place):
                    self.assertEqual(right_changes(pair, place, -6), wanted)

    def test_they_are_a_list_of_numbers(self):
        found = right_changes(EXAMPLE, 1, -2)
        self.assertIs(type(found), list)
        self.assertEqual([type(number) for number in found], [int, int, int])


if __name__ == "__main__":
    unittest.main()
