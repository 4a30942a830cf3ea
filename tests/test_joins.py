"""Limits [23], pairs that never miss [24] or never count twice [26], and clashes [30]."""

import itertools
import unittest

from linksums.joins import (clashes, clashes_apart, count_never_missing, limits, never_misses, never_twice,
                            nearest_never_missing, right_within)
from linksums.links import cells_of, counts, total
from linksums.order import Links
from linksums.prices import cheapest, price
from linksums.trees import is_right, turned
from tests import samples

# Three operations in which each value joined with itself is the value, then three others: the operation,
# some of its values, and its nought.
TWICE_IS_ONCE = [
    (max, [0, 1, 5], 0),
    (lambda one, two: sorted({*one, *two}), [[], [1], [2, 7]], []),
    (lambda one, two: one | two, [0, 1, 6], 0),
]
TWICE_IS_MORE = [
    (lambda one, two: one + two, [0, 1, -4], 0),
    (lambda one, two: one ^ two, [0, 1, 6], 0),
    (lambda one, two: one * two, [1, 2, -1], 1),
]


def defined_limits(down):
    """The limits [23]."""
    places = range(1, len(down) + 1)
    return [min([k for k in places if k > j and down[k - 1] < j] + [len(down) + 1]) for j in places]


def defined_clashes(pair):
    """The tuples of two places that clash [30], ascending."""
    down, up = pair
    places = range(1, len(down) + 1)
    return [(j, k) for j, k in itertools.product(places, repeat=2)
            if j < k and up[j - 1] > k and down[k - 1] < j]


def never_missing(pair):
    return min(samples.counts_that_should_be_1(pair)) >= 1


def lie_within(pair, other):
    """Whether all walks of a pair lie within those of another one."""
    ours = samples.walks_down(pair) + samples.walks_up(pair)
    theirs = samples.walks_down(other) + samples.walks_up(other)
    return all(set(one) <= set(two) for one, two in zip(ours, theirs))


def are_apart(chosen):
    """Whether no two tuples have the same first or the same second place."""
    return len({j for j, _ in chosen}) == len(chosen) == len({k for _, k in chosen})


def most_apart(pair):
    """The greatest number of clashes of which no two share a place, by all choices."""
    found = defined_clashes(pair)
    return max(many for many in range(len(found) + 1)
               if any(are_apart(chosen) for chosen in itertools.combinations(found, many)))


def joined(join, nought, values):
    for value in values:
        nought = join(nought, value)
    return nought


def totals_with(pair, join, nought, changes):
    """The totals of all places after changes (place, value), kept by the walks [22]."""
    cells = [nought] * len(pair[0])
    ups = samples.walks_up(pair)
    for place, value in changes:
        for reached in ups[place - 1]:
            cells[reached - 1] = join(cells[reached - 1], value)
    return [joined(join, nought, [cells[k - 1] for k in walk]) for walk in samples.walks_down(pair)]


def is_right_for(pair, join, values, nought):
    """Whether the totals are what the changes give: after one change, or two, at one place each."""
    places = range(1, len(pair[0]) + 1)
    single = [[change] for change in itertools.product(places, values)]
    double = [one + two for one, two in itertools.product(single, repeat=2)]
    for changes in single + double:
        wanted = [joined(join, nought, [value for j, value in changes if j <= i]) for i in places]
        if totals_with(pair, join, nought, changes) != wanted:
            return False
    return True


class Limits(unittest.TestCase):
    def test_known_limits(self):
        self.assertEqual(limits([0, 1, 0]), [3, 3, 4])
        self.assertEqual(limits([0]), [2])
        self.assertEqual(limits([0, 0, 2, 0, 4]), [2, 4, 4, 6, 6])
        self.assertEqual(limits(list(range(16))), [17] * 16)
        self.assertEqual(limits([0] * 16), list(range(2, 18)))

    def test_all_down_tables(self):
        for places in range(1, 7):
            for down in samples.all_downs(places):
                with self.subTest(down=down):
                    self.assertEqual(limits(down), defined_limits(down))

    def test_large_down_tables(self):
        for down, _ in samples.large_pairs() + samples.drawn_pairs():
            with self.subTest(down=down):
                self.assertEqual(limits(down), defined_limits(down))

    def test_they_are_the_up_table_of_a_right_pair(self):
        for places in range(1, 6):
            right = samples.right_pairs(places)
            for down in samples.all_downs(places):
                up = limits(down)
                with self.subTest(down=down):
                    found = [other for other, links in right if links == up]
                    self.assertEqual(len(found), 1)
                    # Its down links are the greatest of all right pairs whose down links are nowhere greater.
                    below = [other for other, _ in right if all(one <= two for one, two in zip(other, down))]
                    self.assertIn(found[0], below)
                    self.assertEqual(found[0], [max(column) for column in zip(*below)])


class PairsThatNeverMiss(unittest.TestCase):
    def test_known_pairs(self):
        self.assertIs(never_misses(([0, 1, 0], [2, 3, 4])), True)
        self.assertIs(never_misses(([0, 0], [3, 3])), False)
        self.assertIs(never_misses(([0], [2])), True)

    def test_held_against_the_counts(self):
        for pair in samples.some_pairs() + samples.all_pairs(4) + samples.drawn_pairs():
            with self.subTest(pair=pair):
                self.assertIs(never_misses(pair), never_missing(pair))

    def test_held_against_the_covers_and_the_clashes(self):
        for pair in samples.some_pairs() + samples.all_pairs(4) + samples.drawn_pairs():
            most = max(map(max, samples.defined_covers(pair)))
            with self.subTest(pair=pair):
                self.assertEqual(most <= 1, never_misses(pair))
                self.assertEqual(clashes(pair) == [], never_misses(pair))

    def test_right_ones_are_told_by_their_products(self):
        for pair in samples.some_pairs() + samples.all_pairs(4) + samples.some_right_pairs():
            if never_misses(pair):
                places = len(pair[0])
                told = sum((k - below) * (above - k) for k, (below, above) in enumerate(zip(*pair), 1))
                with self.subTest(pair=pair):
                    self.assertEqual(told == places * (places + 1) // 2, is_right(pair))

    def test_the_numbers_of_up_tables(self):
        self.assertEqual(count_never_missing([0, 1, 0]), 2)
        self.assertEqual(count_never_missing([0] * 16), 1)
        # The product of all numbers from 1 to 16.
        self.assertEqual(count_never_missing(list(range(16))), 20922789888000)
        for places in range(1, 5):
            for down in samples.all_downs(places):
                with self.subTest(down=down):
                    found = [up for up in samples.all_ups(places) if never_missing((down, up))]
                    self.assertEqual(count_never_missing(down), len(found))

    def test_the_numbers_of_large_down_tables(self):
        for down, _ in samples.large_pairs() + samples.drawn_pairs():
            many = 1
            for place, limit in enumerate(defined_limits(down), 1):
                many *= limit - place
            with self.subTest(down=down):
                self.assertEqual(count_never_missing(down), many)

    def test_right_pairs_within(self):
        found = 0
        for pair in samples.some_pairs() + samples.all_pairs(4) + samples.drawn_pairs() + samples.some_right_pairs():
            within = right_within(pair)
            with self.subTest(pair=pair):
                self.assertEqual(within is None, not never_missing(pair))
                if within is not None:
                    found += 1
                    self.assertIs(type(within), tuple)
                    self.assertEqual(within[1], defined_limits(pair[0]))
                    self.assertEqual(set(samples.counts_that_should_be_1(within)), {1})
                    self.assertTrue(lie_within(within, pair))
                    self.assertTrue(all(one <= two for one, two in zip(within[0], pair[0])))
                    self.assertTrue(all(one >= two for one, two in zip(within[1], pair[1])))
        self.assertGreater(found, 200)

    def test_pairs_that_miss_have_no_right_pair_within(self):
        for places in range(1, 5):
            right = samples.right_pairs(places)
            for pair in samples.all_pairs(places):
                links = [one for one in right if all(a <= b for a, b in zip(one[0], pair[0]))
                         and all(a >= b for a, b in zip(one[1], pair[1]))]
                with self.subTest(pair=pair):
                    self.assertEqual(any(lie_within(one, pair) for one in right), never_misses(pair))
                    self.assertEqual(links != [], never_misses(pair))

    def test_of_a_right_pair_it_is_the_pair_itself(self):
        for pair in samples.some_right_pairs():
            with self.subTest(pair=pair):
                self.assertEqual(right_within(pair), pair)

    def test_none_has_a_price_below_that_of_right_pairs(self):
        for pair in samples.some_pairs():
            if never_misses(pair):
                places = len(pair[0])
                for asked, changed in [([1] * places, [1] * places), ([0] * places, list(range(places)))]:
                    with self.subTest(pair=pair, asked=asked):
                        least = price(cheapest(asked, changed), asked, changed)
                        self.assertGreaterEqual(price(pair, asked, changed), least)


class PairsThatNeverCountTwice(unittest.TestCase):
    def test_known_pairs(self):
        self.assertIs(never_twice(([0, 1, 0], [2, 3, 4])), False)
        self.assertIs(never_twice(([0, 0], [3, 3])), True)
        self.assertIs(never_twice(([0], [2])), True)

    def test_held_against_the_counts(self):
        for pair in samples.some_pairs() + samples.all_pairs(4) + samples.drawn_pairs():
            with self.subTest(pair=pair):
                self.assertIs(never_twice(pair), max(map(max, samples.defined_counts(pair))) <= 1)

    def test_held_against_the_walks(self):
        for pair in samples.some_pairs() + samples.all_pairs(4) + samples.drawn_pairs():
            downs, ups = samples.walks_down(pair), samples.walks_up(pair)
            both = [(j, k) for k in range(1, len(downs) + 1) for j in downs[k - 1] if j < k and k in ups[j - 1]]
            with self.subTest(pair=pair):
                self.assertEqual(never_twice(pair), both == [])

    def test_a_pair_of_one_kind_is_right_if_the_totals_of_ones_are(self):
        for pair in samples.some_pairs() + samples.all_pairs(4):
            if never_misses(pair) or never_twice(pair):
                places = len(pair[0])
                cells = cells_of(pair[1], [1] * places)
                told = [total(pair[0], cells, place) for place in range(1, places + 1)]
                with self.subTest(pair=pair):
                    self.assertEqual(told == list(range(1, places + 1)), is_right(pair))


class TwoKindsOfOperations(unittest.TestCase):
    def test_each_value_joined_with_itself_is_the_value(self):
        for join, values, nought in TWICE_IS_ONCE:
            self.assertEqual([join(value, value) for value in values], values)
            for places in range(1, 4):
                for pair in samples.all_pairs(places):
                    with self.subTest(pair=pair, values=values):
                        self.assertEqual(is_right_for(pair, join, values, nought), never_misses(pair))

    def test_a_value_joined_with_itself_is_another_one(self):
        for join, values, nought in TWICE_IS_MORE:
            self.assertNotEqual([join(value, value) for value in values], values)
            for places in range(1, 4):
                for pair in samples.all_pairs(places):
                    with self.subTest(pair=pair, values=values):
                        self.assertEqual(is_right_for(pair, join, values, nought), is_right(pair))


class Clashes(unittest.TestCase):
    def test_known_clashes(self):
        self.assertEqual(clashes(([0, 0, 2], [4, 4, 4])), [(1, 2)])
        self.assertEqual(clashes(([0, 0, 0], [4, 4, 4])), [(1, 2), (1, 3), (2, 3)])
        self.assertEqual(clashes(([0, 1, 0], [2, 3, 4])), [])

    def test_held_against_their_definition(self):
        for pair in samples.some_pairs() + samples.all_pairs(4) + samples.drawn_pairs():
            with self.subTest(pair=pair):
                found = clashes(pair)
                self.assertEqual(found, defined_clashes(pair))
                self.assertIs(type(found), list)
                self.assertEqual({type(clash) for clash in found} - {tuple}, set())

    def test_as_many_apart_as_can_be(self):
        for places in range(1, 4):
            for pair in samples.all_pairs(places):
                self.check_apart(pair, most_apart(pair))

    def test_as_many_apart_as_can_be_of_four_places(self):
        for pair in samples.all_pairs(4)[::5] + [([0, 0, 0, 0], [5, 5, 5, 5]), ([0, 0, 1, 0], [5, 4, 5, 5])]:
            self.check_apart(pair, most_apart(pair))

    def test_as_many_apart_as_links_have_to_be_changed(self):
        for places in range(1, 5):
            never = [pair for pair in samples.all_pairs(places) if never_missing(pair)]
            for pair in samples.all_pairs(places):
                self.check_apart(pair, min(samples.changed_links(pair, other) for other in never))

    def test_of_large_pairs(self):
        for pair in samples.large_pairs() + samples.drawn_pairs():
            self.check_apart(pair, len(clashes_apart(pair)))
        # Each place but the last one clashes with the next one.
        self.check_apart(([0] * 16, [17] * 16), 15)

    def test_the_nearest_pair_of_one_that_never_misses_is_the_pair_itself(self):
        for pair in samples.some_right_pairs() + samples.some_pairs():
            with self.subTest(pair=pair):
                self.assertEqual(nearest_never_missing(pair) == pair, never_missing(pair))
                self.assertEqual(clashes_apart(pair) == [], never_missing(pair))

    def check_apart(self, pair, many):
        chosen = clashes_apart(pair)
        nearest = nearest_never_missing(pair)
        with self.subTest(pair=pair):
            self.assertIs(type(chosen), list)
            self.assertEqual({type(clash) for clash in chosen} - {tuple}, set())
            self.assertLessEqual(set(chosen), set(defined_clashes(pair)))
            self.assertTrue(are_apart(chosen))
            self.assertEqual(len(chosen), many)
            self.assertIs(type(nearest), tuple)
            self.assertTrue(never_missing(nearest))
            self.assertEqual(samples.changed_links(pair, nearest), many)
            self.assertEqual([len(table) for table in nearest], [len(table) for table in pair])


class PairsTurnedAbout(unittest.TestCase):
    def test_they_miss_and_count_twice_as_before(self):
        for pair in samples.some_pairs() + samples.all_pairs(4) + samples.drawn_pairs():
            with self.subTest(pair=pair):
                self.assertIs(never_misses(turned(pair)), never_misses(pair))
                self.assertIs(never_twice(turned(pair)), never_twice(pair))

    def test_their_clashes(self):
        for pair in samples.some_pairs() + samples.all_pairs(4) + samples.drawn_pairs():
            end = len(pair[0]) + 1
            with self.subTest(pair=pair):
                self.assertEqual(clashes(turned(pair)), sorted((end - k, end - j) for j, k in clashes(pair)))
                self.assertEqual(len(clashes_apart(turned(pair))), len(clashes_apart(pair)))


class Mixes(unittest.TestCase):
    def two_right_pairs(self):
        """All two right pairs for equally many places, up to five, and some large ones."""
        small = [samples.right_pairs(places) for places in range(1, 6)]
        large = [[pair for pair in samples.some_right_pairs() if len(pair[0]) == places] for places in (6, 9, 16)]
        return [two for pairs in small + large for two in itertools.product(pairs, repeat=2)]

    def test_they_tell_whether_one_leads_to_the_other(self):
        for pair, other in self.two_right_pairs():
            mix = (pair[0], other[1])
            with self.subTest(pair=pair, other=other):
                self.assertIs(never_twice(mix), Links(pair).leads_to(Links(other)))
                self.assertIs(never_misses(mix), Links(other).leads_to(Links(pair)))

    def test_a_count_is_1_if_the_walks_meet_at_the_same_place(self):
        for pair, other in self.two_right_pairs():
            if Links(pair).leads_to(Links(other)):
                ours, theirs = self.meetings(pair), self.meetings(other)
                places = range(1, len(pair[0]) + 1)
                wanted = [[int(j <= i and ours[i, j] == theirs[i, j]) for j in places] for i in places]
                with self.subTest(pair=pair, other=other):
                    self.assertEqual(counts((pair[0], other[1])), wanted)

    def test_covers_are_the_counts_of_the_mix_the_other_way_round(self):
        for pair, other in self.two_right_pairs():
            with self.subTest(pair=pair, other=other):
                self.assertEqual(samples.defined_covers((pair[0], other[1])), counts((other[0], pair[1])))

    def meetings(self, pair):
        """For each two places the place at which the walk down from the one meets the walk up from the other."""
        downs, ups = enumerate(samples.walks_down(pair), 1), list(enumerate(samples.walks_up(pair), 1))
        return {(i, j): set(down) & set(up) for i, down in downs for j, up in ups}


class NewThings(unittest.TestCase):
    def test_each_list_is_new(self):
        down, pair = [0, 1, 0, 0], ([0, 0, 0, 1], [5, 5, 5, 5])
        for function, argument in [(limits, down), (clashes, pair), (clashes_apart, pair)]:
            wanted = list(function(argument))
            function(argument).clear()
            self.assertEqual(function(argument), wanted)
        for function in (right_within, nearest_never_missing):
            for argument in (samples.plain(4), ([0, 1, 2, 1], [2, 3, 4, 5])):
                wanted = str(function(argument))
                for table in function(argument):
                    table.append(3)
                self.assertEqual(str(function(argument)), wanted)


if __name__ == "__main__":
    unittest.main()
