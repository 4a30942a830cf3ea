"""Signed sums [15], pairs alike [16], and what moves [17] say of them."""

import unittest

from linksums.links import cells_of, count, counts, total
from linksums.signs import alike_pairs, are_alike, parting, signed_sums
from tests import samples

# The two pairs that [17] names: alike, but no moves lead from one to the other.
FIRST = ([0, 0, 1, 2], [4, 3, 5, 5])
SECOND = ([0, 0, 2, 1], [3, 4, 5, 5])


def nearer(places):
    """All two places, the second one less than the first one."""
    return [(i, j) for i in range(1, places + 1) for j in range(1, i)]


class SignedSums(unittest.TestCase):
    def test_one_place_has_none(self):
        self.assertEqual(signed_sums(([0], [2])), [])

    def test_a_pair_that_is_not_right(self):
        self.assertEqual(signed_sums(([0, 1, 0], [2, 3, 4])), [(2, 1, 2), (3, 1, -1), (3, 2, 1)])

    def test_sums_of_nought_are_left_out(self):
        # The down link of 3 is 1 and so is that of 2, whose up link is 3: 1 - 1.
        self.assertEqual(samples.defined_sum(([0, 1, 1], [2, 3, 4]), 3, 1), 0)
        self.assertEqual(signed_sums(([0, 1, 1], [2, 3, 4])), [(2, 1, 2), (3, 2, 1)])
        self.assertEqual(signed_sums(([0, 0], [3, 3])), [])

    def test_links_both_ways_and_many_between(self):
        self.assertEqual(signed_sums(([0, 1, 1, 1], [4, 4, 4, 5])), [(2, 1, 1), (3, 1, 1), (4, 2, 1), (4, 3, 1)])
        self.assertEqual(signed_sums(([0, 1, 1, 1, 0], [5, 5, 5, 5, 6])),
                         [(2, 1, 1), (3, 1, 1), (4, 1, 1), (5, 1, -2), (5, 2, 1), (5, 3, 1), (5, 4, 1)])

    def test_ascending_with_places_of_two_digits(self):
        pair = samples.plain(12)
        self.assertEqual(signed_sums(pair), [(k + 1, k, 1) for k in range(1, 12)])

    def test_signed_sums_are_as_defined(self):
        for pair in samples.some_pairs() + samples.all_pairs(4):
            with self.subTest(pair=pair):
                sums = [(i, j, samples.defined_sum(pair, i, j)) for i, j in nearer(len(pair[0]))]
                self.assertEqual(signed_sums(pair), [row for row in sums if row[2] != 0])

    def test_they_are_a_list_of_tuples_of_numbers(self):
        rows = signed_sums(([0, 1, 0], [2, 3, 4]))
        self.assertIs(type(rows), list)
        for row in rows:
            self.assertIs(type(row), tuple)
            self.assertEqual([type(number) for number in row], [int, int, int])

    def test_they_tell_the_counts(self):
        for pair in samples.some_pairs():
            sums = {(i, j): worth for i, j, worth in signed_sums(pair)}
            for i, j in nearer(len(pair[0])):
                with self.subTest(pair=pair, i=i, j=j):
                    told = sum(sums.get((i, k), 0) * count(pair, k, j) for k in range(j, i))
                    self.assertEqual(count(pair, i, j), told)

    def test_they_tell_whether_a_pair_is_right(self):
        for pair in samples.some_pairs():
            with self.subTest(pair=pair):
                places = len(pair[0])
                right = all(count(pair, i, j) == 1 for i, j in nearer(places))
                self.assertEqual(signed_sums(pair) == [(k + 1, k, 1) for k in range(1, places)], right)


class PairsAlike(unittest.TestCase):
    def test_the_two_pairs_of_17(self):
        self.assertIs(are_alike(FIRST, SECOND), True)
        self.assertIs(are_alike(SECOND, FIRST), True)
        self.assertIsNone(parting(FIRST, SECOND))
        self.assertIsNone(parting(SECOND, FIRST))
        self.assertEqual(samples.moves_from(FIRST), [])

    def test_the_same_pair(self):
        for pair in samples.some_pairs():
            with self.subTest(pair=pair):
                self.assertIs(are_alike(pair, pair), True)
                self.assertIs(are_alike(pair, (list(pair[0]), list(pair[1]))), True)
                self.assertIsNone(parting(pair, pair))

    def test_one_place(self):
        self.assertIs(are_alike(([0], [2]), ([0], [2])), True)
        self.assertIsNone(parting(([0], [2]), ([0], [2])))

    def test_the_nearest_places_and_of_these_the_least_second(self):
        right, none = samples.plain(4), ([0, 0, 0, 0], [5, 5, 5, 5])
        self.assertEqual(parting(right, none), (2, 1))
        self.assertEqual(parting(none, right), (2, 1))
        # All counts of neighbours are 1 in both, but those of 3 and 1 and of 4 and 2 differ.
        other = ([0, 1, 2, 3], [3, 4, 5, 5])
        self.assertEqual(counts(other), [[1, 0, 0, 0], [1, 1, 0, 0], [2, 1, 1, 0], [2, 2, 1, 1]])
        self.assertEqual(parting(right, other), (3, 1))
        # Only the farthest count differs.
        self.assertEqual(parting(right, ([0, 1, 2, 3], [4, 5, 5, 5])), (4, 1))
        # The counts of 4 and 1 differ, too, but 5 and 3 are nearer.
        left, turned = ([0, 1, 2, 3, 4], [4, 6, 5, 6, 6]), samples.plain(5)
        self.assertEqual(parting(left, turned), (5, 3))
        self.assertNotEqual(count(left, 4, 1), count(turned, 4, 1))

    def test_all_pairs_held_against_their_counts(self):
        for places in (1, 2, 3):
            for pair in samples.all_pairs(places):
                for other in samples.all_pairs(places):
                    self.check_two(pair, other)

    def test_large_pairs_held_against_their_counts(self):
        for pair in samples.large_pairs():
            for other in samples.large_pairs():
                if len(pair[0]) == len(other[0]):
                    self.check_two(pair, other)

    def test_pairs_of_four_places_held_against_their_counts(self):
        pairs = samples.all_pairs(4)
        for pair in pairs[::17] + [FIRST, SECOND]:
            for other in pairs:
                self.check_two(pair, other)

    def test_the_least_sum_that_differs_tells_the_counts(self):
        for pair in samples.all_pairs(3) + samples.large_pairs():
            for other in samples.all_pairs(3) + samples.large_pairs():
                if len(pair[0]) == len(other[0]) and parting(pair, other) is not None:
                    i, j = parting(pair, other)
                    with self.subTest(pair=pair, other=other):
                        apart = samples.defined_sum(pair, i, j) - samples.defined_sum(other, i, j)
                        self.assertEqual(count(pair, i, j) - count(other, i, j), apart)

    def test_pairs_alike_tell_the_same_totals(self):
        for values in samples.rows_of_numbers(4):
            told = [[total(pair[0], cells_of(pair[1], values), k) for k in range(1, 5)] for pair in (FIRST, SECOND)]
            self.assertEqual(told[0], told[1])

    def test_moves_lead_to_pairs_that_are_alike(self):
        pairs = samples.all_pairs(2) + samples.all_pairs(3) + samples.all_pairs(4) + samples.large_pairs()
        found = [(pair, other) for pair in pairs for other in samples.moves_from(pair)]
        self.assertGreater(len(found), 100)
        for pair, other in found:
            with self.subTest(pair=pair, other=other):
                self.assertNotEqual(pair, other)
                self.assertIs(are_alike(pair, other), True)
                self.assertIsNone(parting(pair, other))

    def check_two(self, pair, other):
        with self.subTest(pair=pair, other=other):
            wanted = samples.defined_parting(pair, other)
            found = parting(pair, other)
            self.assertEqual(found, wanted)
            self.assertIs(type(found), type(wanted))
            self.assertIs(are_alike(pair, other), wanted is None)


class AlikePairs(unittest.TestCase):
    def test_one_place(self):
        self.assertEqual(alike_pairs(([0], [2])), [([0], [2])])

    def test_two_places(self):
        self.assertEqual(alike_pairs(([0, 0], [2, 3])), [([0, 0], [2, 3]), ([0, 1], [3, 3])])
        self.assertEqual(alike_pairs(([0, 1], [2, 3])), [([0, 1], [2, 3])])
        self.assertEqual(alike_pairs(([0, 0], [3, 3])), [([0, 0], [3, 3])])

    def test_the_two_pairs_of_17(self):
        self.assertEqual(alike_pairs(FIRST), alike_pairs(SECOND))
        self.assertIn(FIRST, alike_pairs(SECOND))
        self.assertIn(SECOND, alike_pairs(FIRST))

    def test_right_pairs_of_four_places(self):
        found = alike_pairs(samples.plain(4))
        self.assertEqual(len(found), 14)
        self.assertEqual(found[0], samples.totals(4))
        self.assertEqual(found[-1], samples.plain(4))

    def test_all_pairs_alike_ascending(self):
        for places in (1, 2, 3, 4):
            groups = {}
            for pair in samples.all_pairs(places):
                groups.setdefault(str(samples.defined_counts(pair)), []).append(pair)
            for group in groups.values():
                self.assertEqual(group, sorted(group))
                for pair in group:
                    with self.subTest(pair=pair):
                        found = alike_pairs(pair)
                        self.assertEqual(found, group)
                        self.assertIn(pair, found)

    def test_a_list_of_tuples_of_two_lists(self):
        found = alike_pairs(FIRST)
        self.assertIs(type(found), list)
        for pair in found:
            self.assertIs(type(pair), tuple)
            self.assertEqual([type(table) for table in pair], [list, list])


if __name__ == "__main__":
    unittest.main()
