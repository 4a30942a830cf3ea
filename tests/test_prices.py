"""Prices, the cheapest right pairs and price tables [27]."""

import copy
import itertools
import random
import unittest

from linksums.errors import InvalidPair, InvalidValues
from linksums.prices import cheapest, is_price_table, price, price_table
from linksums.trees import turned
from tests import samples
from tests.wrong_things import NO_NUMBERS, NoWholeThing, Raising, no_tables


def rows(places):
    """Tuples of the numbers of questions and of changes at so many places."""
    some = random.Random(places)
    drawn = [tuple([some.randint(0, most) for _ in range(places)] for most in both)
             for both in [(3, 3), (9, 2), (1, 20), (samples.NINETEEN, samples.NINETEEN)]]
    return drawn + [
        ([0] * places, [0] * places),
        ([1] * places, [0] * places),
        ([0] * places, [1] * places),
        ([1] * places, [1] * places),
        (list(range(places)), list(range(places, 0, -1))),
        ([samples.NINETEEN] * places, [samples.NINETEEN - k for k in range(places)]),
    ]


def defined_price(pair, asked, changed):
    """The price [27]."""
    down = sum(many * len(walk) for many, walk in zip(asked, samples.walks_down(pair)))
    up = sum(many * len(walk) for many, walk in zip(changed, samples.walks_up(pair)))
    return down + up


def defined_least(asked, changed):
    return min(defined_price(pair, asked, changed) for pair in samples.right_pairs(len(asked)))


def is_valid(asked, changed, table):
    """Whether a price table is valid [27]."""
    def number(least, most):
        return table[least, most] if least <= most else 0

    places = range(1, len(asked) + 1)
    return all(number(l, r) <= number(l, k - 1) + number(k + 1, r) + sum(asked[k - 1:r]) + sum(changed[l - 1:k])
               for l, k, r in itertools.product(places, repeat=3) if l <= k <= r)


def keys(places):
    return [(l, r) for l in range(1, places + 1) for r in range(l, places + 1)]


class Prices(unittest.TestCase):
    def test_known_prices(self):
        pair = ([0, 0, 2, 0, 4], [2, 4, 4, 6, 6])
        self.assertEqual(price(pair, [1] * 5, [0] * 5), 7)
        self.assertEqual(price(pair, [0] * 5, [1] * 5), 9)
        self.assertEqual(price(pair, [0, 0, 10, 0, 0], [1, 0, 0, 0, 0]), 23)
        self.assertEqual(price(([0], [2]), [3], [4]), 7)

    def test_held_against_the_walks(self):
        for pair in samples.some_pairs() + samples.some_right_pairs():
            for asked, changed in rows(len(pair[0])):
                with self.subTest(pair=pair, asked=asked, changed=changed):
                    found = price(pair, asked, changed)
                    self.assertEqual(found, defined_price(pair, asked, changed))
                    self.assertIs(type(found), int)

    def test_turned_about_questions_become_changes(self):
        for pair in samples.some_pairs():
            for asked, changed in rows(len(pair[0])):
                with self.subTest(pair=pair, asked=asked, changed=changed):
                    self.assertEqual(price(turned(pair), changed[::-1], asked[::-1]), price(pair, asked, changed))


class CheapestPairs(unittest.TestCase):
    def test_known_pairs(self):
        self.assertEqual(cheapest([1, 1], [0, 0]), ([0, 0], [2, 3]))
        self.assertEqual(cheapest([0, 0], [1, 1]), ([0, 1], [3, 3]))
        self.assertEqual(cheapest([0], [0]), ([0], [2]))
        self.assertEqual(cheapest([1] * 16, [0] * 16), samples.totals(16))
        self.assertEqual(cheapest([0] * 16, [1] * 16), samples.plain(16))

    def test_held_against_all_right_pairs(self):
        for places in range(1, 7):
            for asked, changed in rows(places):
                pair = cheapest(asked, changed)
                with self.subTest(asked=asked, changed=changed):
                    self.assertEqual(set(samples.counts_that_should_be_1(pair)), {1})
                    self.assertEqual(len(pair[0]), places)
                    self.assertEqual(defined_price(pair, asked, changed), defined_least(asked, changed))

    def test_all_small_numbers(self):
        for numbers in itertools.product(range(3), repeat=6):
            asked, changed = list(numbers[:3]), list(numbers[3:])
            with self.subTest(asked=asked, changed=changed):
                self.assertEqual(defined_price(cheapest(asked, changed), asked, changed), defined_least(asked, changed))

    def test_sixteen_places(self):
        for asked, changed in rows(16):
            pair, table = cheapest(asked, changed), price_table(asked, changed)
            with self.subTest(asked=asked, changed=changed):
                self.assertEqual(set(samples.counts_that_should_be_1(pair)), {1})
                self.assertEqual(price(pair, asked, changed), table[1, 16])
                for other in (samples.plain(16), samples.totals(16), samples.by_powers(16)):
                    self.assertLessEqual(table[1, 16], price(other, asked, changed))

    def test_no_pair_of_few_places_that_never_misses_is_cheaper(self):
        for places in (1, 2, 3):
            for asked, changed in rows(places):
                least = price_table(asked, changed)[1, places]
                for pair in samples.all_pairs(places):
                    if min(samples.counts_that_should_be_1(pair)) >= 1:
                        self.assertGreaterEqual(price(pair, asked, changed), least)

    def test_it_is_a_tuple_of_two_new_lists(self):
        found = cheapest([1, 2, 3], [3, 2, 1])
        self.assertIs(type(found), tuple)
        self.assertEqual([type(table) for table in found], [list, list])
        wanted = copy.deepcopy(found)
        for table in found:
            table.append(9)
        self.assertEqual(cheapest([1, 2, 3], [3, 2, 1]), wanted)


class PriceTables(unittest.TestCase):
    def test_known_table(self):
        self.assertEqual(price_table([1, 1], [0, 0])[1, 2], 2)
        self.assertEqual(price_table([5], [2]), {(1, 1): 7})

    def test_valid_tables_with_the_least_price(self):
        for places in range(1, 7):
            for asked, changed in rows(places):
                table = price_table(asked, changed)
                with self.subTest(asked=asked, changed=changed):
                    self.assertIs(type(table), dict)
                    self.assertEqual(sorted(table), keys(places))
                    self.assertEqual({type(part) for key in table for part in (key, *key)}, {tuple, int})
                    self.assertEqual({type(number) for number in table.values()}, {int})
                    self.assertTrue(is_valid(asked, changed, table))
                    self.assertEqual(table[1, places], defined_least(asked, changed))
                    self.assertIs(is_price_table(asked, changed, table), True)

    def test_of_sixteen_places(self):
        for asked, changed in rows(16):
            table = price_table(asked, changed)
            with self.subTest(asked=asked, changed=changed):
                self.assertEqual(sorted(table), keys(16))
                self.assertTrue(is_valid(asked, changed, table))
                self.assertIs(is_price_table(asked, changed, table), True)

    def test_no_right_pair_is_cheaper_than_a_valid_table_tells(self):
        some = random.Random(27)
        for places in (2, 3, 4):
            for asked, changed in rows(places)[:3]:
                for _ in range(20):
                    table = {key: number - some.choice([0, 0, 1, 2])
                             for key, number in price_table(asked, changed).items()}
                    if is_price_table(asked, changed, table):
                        self.assertLessEqual(table[1, places], defined_least(asked, changed))

    def test_one_number_more_or_less(self):
        outcomes = {True: 0, False: 0}
        for places in range(1, 5):
            for asked, changed in rows(places):
                for key, more in itertools.product(keys(places), (-samples.NINETEEN, -2, -1, 1, 2, samples.NINETEEN)):
                    table = price_table(asked, changed)
                    table[key] += more
                    wanted = is_valid(asked, changed, table)
                    outcomes[wanted] += 1
                    with self.subTest(asked=asked, changed=changed, key=key, more=more):
                        self.assertIs(is_price_table(asked, changed, table), wanted)
                    # All places together cannot cost more than the least price.
                    self.assertFalse(wanted and key == (1, places) and more > 0)
        self.assertGreater(outcomes[True], 100)
        self.assertGreater(outcomes[False], 100)

    def test_other_valid_tables(self):
        for places in (1, 2, 5, 16):
            for asked, changed in rows(places):
                self.assertIs(is_price_table(asked, changed, {key: 0 for key in keys(places)}), True)
                for number in (-1, 1, -samples.NINETEEN):
                    table = {key: number for key in keys(places)}
                    self.assertIs(is_price_table(asked, changed, table), is_valid(asked, changed, table))
                table = {(l, r): (l - r) * samples.NINETEEN // places for l, r in keys(places)}
                self.assertIs(is_price_table(asked, changed, table), True)

    def test_a_key_left_out_or_put_in(self):
        for places in (1, 2, 3, 16):
            asked, changed = [2] * places, [1] * places
            for key in keys(places):
                table = price_table(asked, changed)
                table.pop(key)
                with self.subTest(places=places, key=key):
                    self.assertIs(is_price_table(asked, changed, table), False)
                    for other in [(0, 0), (2, 1), None, "1", 1, (1,), (1, places, 1), (1, places + 1), "11", (key,)]:
                        more = {**price_table(asked, changed), other: 0}
                        self.assertIs(is_price_table(asked, changed, more), False)
                        self.assertIs(is_price_table(asked, changed, {**table, other: 0}), False)
            self.assertIs(is_price_table(asked, changed, {}), False)
            self.assertIs(is_price_table(asked, changed, price_table([2] * 4, [1] * 4)), False)

    def test_keys_as_python_compares_them(self):
        table = {(True, 1.0): 1, (1, 2.0): 2, (2, 2): 1}
        self.assertIs(is_price_table([1, 1], [0, 0], table), True)
        self.assertIs(is_price_table([1, 1], [0, 0], {(2, 2): 1, (1, 2): 2, (1, 1): 1}), True)
        self.assertIs(is_price_table([1, 1], [0, 0], {"(1, 1)": 1, (1, 2): 2, (2, 2): 1}), False)

    def test_values_that_are_no_whole_numbers(self):
        for thing in NO_NUMBERS + [NoWholeThing()]:
            for key in keys(3):
                table = {other: -1 if other[0] < other[1] else 0 for other in keys(3)}
                self.assertIs(is_price_table([1] * 3, [1] * 3, table), True)
                table[key] = thing
                with self.subTest(thing=type(thing), key=key):
                    self.assertIs(is_price_table([1] * 3, [1] * 3, table), False)

    def test_things_that_are_no_dicts(self):
        for thing in NO_NUMBERS + [NoWholeThing(), 0, [], [(1, 1)], keys(1), [[1]], dict, (((1, 1), 0),), {(1, 1)}]:
            if not isinstance(thing, dict):
                with self.subTest(thing=type(thing)):
                    self.assertIs(is_price_table([1], [1], thing), False)

    def test_each_table_is_new_and_what_is_passed_in_stays_as_it_was(self):
        asked, changed = [3, 0, 4], [1, 5, 0]
        table = price_table(asked, changed)
        wanted = dict(table)
        self.assertIs(is_price_table(asked, changed, table), True)
        self.assertEqual((asked, changed, table), ([3, 0, 4], [1, 5, 0], wanted))
        table.clear()
        self.assertEqual(price_table(asked, changed), wanted)
        table = price_table(asked, changed)
        asked.clear()
        changed[0] = "changed"
        self.assertEqual(table, wanted)


class WrongNumbers(Raising):
    PAIR = ([0, 1, 0], [2, 3, 4])
    ROW = [1, 2, 3]

    def check_values_error(self, place, function, *arguments):
        error = self.raised(InvalidValues, function, *arguments)
        self.assertEqual(error.place, place)
        self.assertIsNot(type(error.place), bool)

    def no_amounts(self):
        return NO_NUMBERS + [NoWholeThing(), -1, -samples.TWENTY]

    def test_questions_without_a_pair(self):
        for thing in no_tables():
            with self.subTest(thing=type(thing)):
                # The changes are wrong, too, but the questions come first.
                for changed in (None, [1], [-1]):
                    self.check_values_error(None, cheapest, thing, changed)
                    self.check_values_error(None, price_table, thing, changed)
                    self.check_values_error(None, is_price_table, thing, changed, None)

    def test_rows_of_another_length(self):
        for thing in no_tables() + [[1], [1, 2], [1, 2, 3, 4], [None] * 4]:
            if not isinstance(thing, list) or len(thing) != 3:
                with self.subTest(thing=type(thing)):
                    self.check_values_error(None, price, self.PAIR, thing, [-1])
                    self.check_values_error(None, price, self.PAIR, self.ROW, thing)
                    self.check_values_error(None, cheapest, self.ROW, thing)
                    self.check_values_error(None, price_table, self.ROW, thing)
                    self.check_values_error(None, is_price_table, self.ROW, thing, None)

    def test_things_that_are_no_numbers_or_below_0(self):
        for thing in self.no_amounts():
            for place, row in [(1, [thing, 2, 3]), (2, [1, thing, 3]), (3, [1, 2, thing]), (2, [1, thing, -1]),
                               (1, [thing] * 3)]:
                with self.subTest(thing=type(thing), place=place):
                    for changed in (self.ROW, None, [1], [None, None, None]):
                        self.check_values_error(place, price, self.PAIR, row, changed)
                        self.check_values_error(place, cheapest, row, changed)
                        self.check_values_error(place, price_table, row, changed)
                        self.check_values_error(place, is_price_table, row, changed, {})
                    self.check_values_error(place, price, self.PAIR, self.ROW, row)
                    self.check_values_error(place, cheapest, self.ROW, row)
                    self.check_values_error(place, price_table, self.ROW, row)
                    self.check_values_error(place, is_price_table, self.ROW, row, {})

    def test_pairs_come_first(self):
        self.check_pair_error(None, None, price, None, None, None)
        self.check_pair_error("up", 2, price, ([0, 0], [2, 2]), [-1], [-1])
        with self.assertRaises(InvalidPair):
            price(changed=None, asked=None, pair=([1], [2]))
        with self.assertRaises(InvalidValues) as caught:
            cheapest(changed=[None], asked=[1, -1])
        self.assertEqual(caught.exception.place, 2)

    def test_rows_of_sixteen_numbers(self):
        self.assertEqual(len(cheapest([0] * 16, [0] * 16)[0]), 16)
        self.check_values_error(16, cheapest, [0] * 15 + [True], [0] * 16)
        self.check_values_error(16, price_table, [0] * 16, [0] * 15 + [-1])


if __name__ == "__main__":
    unittest.main()
