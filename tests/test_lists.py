"""The numbers of right pairs and their order [14], the most places [13] and the looks [12], [10]."""

import collections
import inspect
import itertools
import math
import random
import unittest

from linksums.errors import InvalidNumber, InvalidPair, NotRight
from linksums.lists import (count_by_looks, count_right, count_within, fullest_pair, most_places, numbered_pair,
                            pair_number, right_pairs)
from linksums.trees import depths, is_right
from tests import samples
from tests.wrong_things import NO_NUMBERS, NoWholeThing, Raising

# The numbers of right pairs of 1 to 16 places.
CATALAN = [1, 2, 5, 14, 42, 132, 429, 1430, 4862, 16796, 58786, 208012, 742900, 2674440, 9694845, 35357670]

# No numbers of places, and no numbers of places that a walk may have.
NO_SIZES = NO_NUMBERS + [0, 17, -1, -16, 100, samples.TWENTY, -samples.TWENTY, NoWholeThing()]


def right_by_counts(places):
    """All pairs whose counts are right, in the order of their up tables."""
    right = [pair for pair in samples.all_pairs(places) if set(samples.counts_that_should_be_1(pair)) == {1}]
    return sorted(right, key=lambda pair: pair[1])


def in_order(places):
    """All right pairs by their trees, in the order of their up tables."""
    return sorted(samples.right_pairs(places), key=lambda pair: pair[1])


def longest(walks):
    return max(len(walk) for walk in walks)


class NumbersOfRightPairs(unittest.TestCase):
    def test_known_numbers(self):
        self.assertEqual([count_right(places) for places in range(1, 17)], CATALAN)
        for places in range(1, 17):
            self.assertEqual(count_right(places) * (places + 1), math.comb(2 * places, places))
            self.assertIs(type(count_right(places)), int)

    def test_as_many_as_there_are(self):
        for places in range(1, 5):
            self.assertEqual(count_right(places), len(right_by_counts(places)))
        for places in range(1, 8):
            self.assertEqual(count_right(places), len(samples.right_pairs(places)))


class ListsOfRightPairs(unittest.TestCase):
    def test_all_that_are_right_by_their_counts_in_the_order_of_their_up_tables(self):
        for places in range(1, 5):
            with self.subTest(places=places):
                found = list(right_pairs(places))
                self.assertEqual(found, right_by_counts(places))
                self.assertEqual([up for _, up in found], sorted(up for _, up in found))

    def test_all_of_more_places(self):
        for places in range(5, 9):
            with self.subTest(places=places):
                self.assertEqual(list(right_pairs(places)), in_order(places))

    def test_from_each_number_on(self):
        for places in range(1, 6):
            wanted = in_order(places)
            for start in range(len(wanted) + 4):
                with self.subTest(places=places, start=start):
                    self.assertEqual(list(right_pairs(places, start=start)), wanted[start:])

    def test_from_a_number_beyond_all(self):
        for places in (1, 2, 9, 16):
            for start in (count_right(places), count_right(places) + 1, samples.NINETEEN, samples.TWENTY):
                with self.subTest(places=places, start=start):
                    self.assertEqual(list(right_pairs(places, start=start)), [])

    def test_from_a_number_of_sixteen_places(self):
        for start in (0, 1, 7, CATALAN[14] - 2, CATALAN[14], 20000000, CATALAN[15] - 5):
            found = list(itertools.islice(right_pairs(16, start=start), 5))
            with self.subTest(start=start):
                self.assertEqual(found, [numbered_pair(16, start + k) for k in range(5)])
                self.assertEqual([up for _, up in found], sorted(up for _, up in found))
        self.assertEqual(len(list(right_pairs(16, start=CATALAN[15] - 3))), 3)

    def test_the_first_and_the_last_one(self):
        for places in range(1, 17):
            last = count_right(places) - 1
            with self.subTest(places=places):
                self.assertEqual([*itertools.islice(right_pairs(places), 1)], [samples.totals(places)])
                self.assertEqual(list(right_pairs(places, start=last)), [samples.plain(places)])

    def test_it_is_a_generator_of_tuples_of_two_lists(self):
        self.assertTrue(inspect.isgenerator(right_pairs(3)))
        for pair in right_pairs(4):
            self.assertIs(type(pair), tuple)
            self.assertEqual([type(table) for table in pair], [list, list])
            self.assertEqual({type(link) for table in pair for link in table}, {int})

    def test_each_pair_is_new_and_may_be_changed(self):
        kept = []
        for pair in right_pairs(5):
            kept.append(([*pair[0]], [*pair[1]]))
            for table in pair:
                table.reverse()
                table[0] = "changed"
                table.append(99)
        self.assertEqual(kept, in_order(5))
        lists = [table for pair in list(right_pairs(5)) + list(right_pairs(5)) for table in pair]
        self.assertEqual(len({id(table) for table in lists}), len(lists))

    def test_two_generators_do_not_touch_each_other(self):
        one, two = right_pairs(3), right_pairs(3, start=2)
        self.assertEqual([next(one), next(two), next(one), next(two)],
                         [in_order(3)[k] for k in (0, 2, 1, 3)])
        self.assertEqual(list(one), in_order(3)[2:])
        self.assertEqual(list(two), in_order(3)[4:])

    def test_by_name(self):
        self.assertEqual(list(right_pairs(places=3)), list(right_pairs(3)))
        self.assertEqual(list(right_pairs(start=2, places=3)), list(right_pairs(3, start=2)))
        self.assertEqual(list(right_pairs(3, start=0)), list(right_pairs(3)))
        with self.assertRaises(TypeError):
            right_pairs(3, 2)


class PairsByTheirNumbers(unittest.TestCase):
    def test_known_pairs(self):
        self.assertEqual([numbered_pair(2, 0), numbered_pair(2, 1)], [([0, 0], [2, 3]), ([0, 1], [3, 3])])
        self.assertEqual(numbered_pair(3, 4), ([0, 1, 2], [4, 4, 4]))
        self.assertEqual(pair_number(([0, 1, 2], [4, 4, 4])), 4)
        self.assertEqual(pair_number(([0], [2])), 0)

    def test_they_are_each_others_inverse(self):
        for places in range(1, 7):
            for number, pair in enumerate(in_order(places)):
                with self.subTest(pair=pair):
                    self.assertEqual(numbered_pair(places, number), pair)
                    self.assertEqual(pair_number(pair), number)

    def test_of_large_pairs(self):
        some = random.Random(14)
        for places in range(7, 17):
            last = count_right(places) - 1
            for number in [0, 1, last - 1, last] + [some.randint(0, last) for _ in range(20)]:
                with self.subTest(places=places, number=number):
                    pair = numbered_pair(places, number)
                    self.assertIs(is_right(pair), True)
                    self.assertEqual(pair_number(pair), number)
                    self.assertIs(type(pair_number(pair)), int)
        for pair in samples.some_right_pairs():
            self.assertEqual(numbered_pair(len(pair[0]), pair_number(pair)), pair)

    def test_greater_numbers_have_greater_up_tables(self):
        some = random.Random(15)
        for places in (9, 13, 16):
            numbers = sorted({some.randint(0, count_right(places) - 1) for _ in range(60)})
            ups = [numbered_pair(places, number)[1] for number in numbers]
            self.assertEqual(ups, sorted(ups))
            self.assertEqual(len({str(up) for up in ups}), len(ups))


class PairsWithinWalks(unittest.TestCase):
    def test_the_numbers_held_against_all_right_pairs(self):
        for places in range(1, 7):
            walks = [(longest(samples.walks_down(pair)), longest(samples.walks_up(pair)))
                     for pair in samples.right_pairs(places)]
            for down_most, up_most in itertools.product([1, 2, 3, 4, 5, 6, 7, 16], repeat=2):
                with self.subTest(places=places, down_most=down_most, up_most=up_most):
                    wanted = [walk for walk in walks if walk[0] <= down_most and walk[1] <= up_most]
                    self.assertEqual(count_within(places, down_most, up_most), len(wanted))

    def test_for_up_to_sixteen_places(self):
        for places in range(1, 17):
            with self.subTest(places=places):
                self.assertEqual(count_within(places, 16, 16), CATALAN[places - 1])
                self.assertEqual(count_within(places, places, places), CATALAN[places - 1])
                self.assertEqual(count_within(places, 1, places), 1)
                self.assertEqual(count_within(places, places, 1), 1)
                if places > 1:
                    # Only one pair has a walk down, or a walk up, with all places.
                    self.assertEqual(count_within(places, places - 1, 16), CATALAN[places - 1] - 1)
                    self.assertEqual(count_within(places, 16, places - 1), CATALAN[places - 1] - 1)

    def test_turned_about_they_are_as_many(self):
        for places, one, two in itertools.product((5, 9, 16), range(1, 17), range(1, 17)):
            self.assertEqual(count_within(places, one, two), count_within(places, two, one))

    def test_the_most_places(self):
        for down_most, up_most in itertools.product(range(1, 17), repeat=2):
            most = most_places(down_most, up_most)
            with self.subTest(down_most=down_most, up_most=up_most):
                self.assertEqual(most, math.comb(down_most + up_most, down_most) - 1)
                for places in range(1, 17):
                    found = count_within(places, down_most, up_most)
                    self.assertEqual(found > 0, places <= most)
                    if places == most:
                        self.assertEqual(found, 1)
        self.assertEqual(most_places(16, 16), 601080389)

    def test_the_most_places_held_against_all_right_pairs(self):
        walks = {places: [(longest(samples.walks_down(pair)), longest(samples.walks_up(pair)))
                          for pair in samples.right_pairs(places)] for places in range(1, 7)}
        for down_most, up_most in itertools.product(range(1, 7), repeat=2):
            fitting = [places for places in walks
                       if any(walk[0] <= down_most and walk[1] <= up_most for walk in walks[places])]
            with self.subTest(down_most=down_most, up_most=up_most):
                self.assertEqual(max(fitting), min(6, most_places(down_most, up_most)))

    def test_the_fullest_pairs(self):
        found = 0
        for down_most, up_most in itertools.product(range(1, 17), repeat=2):
            most = math.comb(down_most + up_most, down_most) - 1
            if most <= 16:
                pair = fullest_pair(down_most, up_most)
                found += 1
                with self.subTest(down_most=down_most, up_most=up_most):
                    self.assertEqual(set(samples.counts_that_should_be_1(pair)), {1})
                    self.assertEqual((len(pair[0]), len(pair[1])), (most, most))
                    self.assertLessEqual(longest(samples.walks_down(pair)), down_most)
                    self.assertLessEqual(longest(samples.walks_up(pair)), up_most)
        # One of both is 1, or they are 2 and 2, 2 and 3, 2 and 4.
        self.assertEqual(found, 31 + 5)

    def test_known_fullest_pairs(self):
        self.assertEqual(fullest_pair(2, 2), ([0, 1, 0, 3, 3], [3, 3, 6, 5, 6]))
        self.assertEqual(fullest_pair(1, 1), ([0], [2]))
        for places in range(1, 17):
            self.assertEqual(fullest_pair(1, places), samples.totals(places))
            self.assertEqual(fullest_pair(places, 1), samples.plain(places))

    def test_no_other_pair_that_never_misses_is_as_full(self):
        for down_most, up_most in itertools.product(range(1, 4), repeat=2):
            places = most_places(down_most, up_most)
            for more in range(places, 5):
                full = [pair for pair in samples.all_pairs(more)
                        if min(samples.counts_that_should_be_1(pair)) >= 1
                        and longest(samples.walks_down(pair)) <= down_most
                        and longest(samples.walks_up(pair)) <= up_most]
                with self.subTest(down_most=down_most, up_most=up_most, places=more):
                    self.assertEqual(full, [fullest_pair(down_most, up_most)] if more == places else [])


class PairsByTheirLooks(unittest.TestCase):
    def test_held_against_all_right_pairs(self):
        for places in range(1, 7):
            wanted = collections.Counter()
            for pair in samples.right_pairs(places):
                wanted[sum(map(len, samples.walks_down(pair))), sum(map(len, samples.walks_up(pair)))] += 1
            for down_all, up_all in itertools.product(range(-1, 24), repeat=2):
                with self.subTest(places=places, down_all=down_all, up_all=up_all):
                    self.assertEqual(count_by_looks(places, down_all, up_all), wanted[down_all, up_all])

    def test_together_they_are_all_right_pairs(self):
        for places in range(1, 10):
            most = places * (places + 1) // 2
            found = [count_by_looks(places, down_all, up_all)
                     for down_all in range(places, most + 1) for up_all in range(places, most + 1)]
            with self.subTest(places=places):
                self.assertEqual(sum(found), CATALAN[places - 1])
                self.assertEqual(count_by_looks(places, places, most), 1)
                self.assertEqual(count_by_looks(places, most, places), 1)

    def test_numbers_that_do_not_come(self):
        for places in range(1, 10):
            most = places * (places + 1) // 2
            for down_all, up_all in [(0, 0), (places - 1, most), (most, places - 1), (most + 1, places),
                                     (most, most + 1), (-1, -1), (-places, most), (places, -most),
                                     (samples.TWENTY, places), (places, samples.TWENTY),
                                     (-samples.TWENTY, samples.NINETEEN)]:
                with self.subTest(places=places, down_all=down_all, up_all=up_all):
                    self.assertEqual(count_by_looks(places, down_all, up_all), 0)
        self.assertEqual(count_by_looks(2, 2, 2), 0)

    def test_the_walks_from_a_place_have_one_place_more_than_its_depth(self):
        for pair in samples.some_right_pairs():
            walks = zip(samples.walks_down(pair), samples.walks_up(pair))
            with self.subTest(pair=pair):
                self.assertEqual([len(down) + len(up) - 1 for down, up in walks], depths(pair))


class WrongNumbers(Raising):
    def check_number_error(self, thing, function, *arguments):
        self.assertIs(self.raised(InvalidNumber, function, *arguments).number, thing)

    def test_numbers_of_places_and_of_places_of_walks(self):
        for thing in NO_SIZES:
            with self.subTest(thing=type(thing)):
                self.check_number_error(thing, count_right, thing)
                self.check_number_error(thing, lambda places: next(right_pairs(places)), thing)
                self.check_number_error(thing, numbered_pair, thing, 0)
                self.check_number_error(thing, count_within, thing, 1, 1)
                self.check_number_error(thing, count_within, 1, thing, 1)
                self.check_number_error(thing, count_within, 1, 1, thing)
                self.check_number_error(thing, most_places, thing, 1)
                self.check_number_error(thing, most_places, 1, thing)
                self.check_number_error(thing, fullest_pair, thing, 1)
                self.check_number_error(thing, fullest_pair, 1, thing)
                self.check_number_error(thing, count_by_looks, thing, 1, 1)

    def test_looks_are_counted_for_at_most_nine_places(self):
        for places in range(10, 17):
            self.check_number_error(places, count_by_looks, places, 1, 1)
        self.assertGreater(count_by_looks(9, 17, 28), 0)

    def test_sums_of_walks(self):
        for thing in NO_NUMBERS + [NoWholeThing()]:
            with self.subTest(thing=type(thing)):
                self.check_number_error(thing, count_by_looks, 3, thing, 5)
                self.check_number_error(thing, count_by_looks, 3, 4, thing)

    def test_starts(self):
        for thing in NO_NUMBERS + [NoWholeThing(), -1, -2, -samples.TWENTY]:
            with self.subTest(thing=type(thing)):
                self.check_number_error(thing, lambda start: list(right_pairs(3, start=start)), thing)

    def test_numbers_of_pairs(self):
        for thing in NO_NUMBERS + [NoWholeThing(), -1, -samples.TWENTY, samples.TWENTY]:
            for places in (1, 3, 16):
                with self.subTest(thing=type(thing), places=places):
                    self.check_number_error(thing, numbered_pair, places, thing)
        for places in range(1, 17):
            many = count_right(places)
            for number in (many, many + 1):
                self.check_number_error(number, numbered_pair, places, number)
            self.assertEqual(numbered_pair(places, many - 1), samples.plain(places))

    def test_pairs_of_more_than_sixteen_places(self):
        for down_most, up_most in itertools.product(range(1, 17), repeat=2):
            most = math.comb(down_most + up_most, down_most) - 1
            if most > 16:
                with self.subTest(down_most=down_most, up_most=up_most):
                    error = self.raised(InvalidNumber, fullest_pair, down_most, up_most)
                    self.assertEqual(error.number, most)
                    self.assertIs(type(error.number), int)

    def test_errors_are_raised_when_the_first_pair_is_asked_for(self):
        for places, start, wrong in [(0, 0, 0), (17, -1, 17), (None, 0, None), (3, -1, -1), (3, "0", "0")]:
            pairs = right_pairs(places, start=start)
            self.assertTrue(inspect.isgenerator(pairs))
            with self.subTest(places=places, start=start):
                self.check_number_error(wrong, next, pairs)

    def test_the_first_argument_comes_first(self):
        one, two, three = [1], [2], [3]
        self.check_number_error(one, lambda: next(right_pairs(one, start=two)))
        self.check_number_error(one, lambda: next(right_pairs(start=two, places=one)))
        self.check_number_error(one, numbered_pair, one, two)
        self.check_number_error(0, numbered_pair, 0, -1)
        self.check_number_error(one, count_within, one, two, three)
        self.check_number_error(two, count_within, 16, two, three)
        self.check_number_error(one, most_places, one, two)
        self.check_number_error(one, fullest_pair, one, two)
        # Together with 16 a number from 1 on gives more than 16 places, but the wrong number comes first.
        self.check_number_error(two, fullest_pair, 16, two)
        self.check_number_error(one, count_by_looks, one, two, three)
        self.check_number_error(two, count_by_looks, 9, two, three)

    def test_pairs_that_have_no_number(self):
        self.assertEqual(self.raised(InvalidPair, pair_number, ([0, 2], [2, 2])).table, "down")
        error = self.raised(NotRight, pair_number, ([0, 1, 2, 3, 4], [4, 6, 5, 6, 6]))
        self.assertEqual((error.first, error.second), (5, 3))


if __name__ == "__main__":
    unittest.main()
