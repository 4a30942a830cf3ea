"""Wrong links, mended pairs and mend tables [28], and one wrong link [29]."""

import copy
import itertools
import unittest

from linksums.links import counts
from linksums.mends import is_mend_table, mend_table, mended, wrong_links
from linksums.trees import is_right, turned
from tests import samples
from tests.wrong_things import NO_NUMBERS, NoWholeThing, Raising


def keys(places):
    return [(l, r) for l in range(1, places + 1) for r in range(l, places + 1)]


def defined_wrong_links(pair):
    """The number of wrong links [28], by all right pairs."""
    return min(samples.changed_links(pair, right) for right in samples.right_pairs(len(pair[0])))


def is_valid(pair, table):
    """Whether a mend table is valid [28]."""
    def number(least, most):
        return table[least, most] if least <= most else 0

    down, up = pair
    places = range(1, len(down) + 1)
    return all(number(l, r) <= number(l, k - 1) + number(k + 1, r) + (down[k - 1] != l - 1) + (up[k - 1] != r + 1)
               for l, k, r in itertools.product(places, repeat=3) if l <= k <= r)


def few_pairs():
    """All pairs for 1 to 3 places, and some of those for 4."""
    return [pair for places in (1, 2, 3) for pair in samples.all_pairs(places)] + samples.all_pairs(4)[::9]


def one_changed(pair):
    """All pairs that differ from a pair in one link: tuples of the table, the place, the old and the new link."""
    places = len(pair[0])
    for k in range(1, places + 1):
        for table, links in ((0, range(k)), (1, range(k + 1, places + 2))):
            for link in links:
                if link != pair[table][k - 1]:
                    new = copy.deepcopy(pair)
                    new[table][k - 1] = link
                    yield new, table, k, pair[table][k - 1], link


class WrongLinks(unittest.TestCase):
    def test_known_numbers(self):
        self.assertEqual(wrong_links(([0, 1, 0], [2, 3, 4])), 1)
        self.assertEqual(wrong_links(([0, 0, 2], [2, 4, 4])), 0)
        self.assertEqual(wrong_links(([0, 0], [3, 3])), 1)
        self.assertEqual(wrong_links(([0], [2])), 0)

    def test_held_against_all_right_pairs(self):
        for places in range(1, 5):
            right = samples.right_pairs(places)
            for pair in samples.all_pairs(places):
                found = mended(pair)
                with self.subTest(pair=pair):
                    wanted = min(samples.changed_links(pair, other) for other in right)
                    self.assertEqual(wrong_links(pair), wanted)
                    self.assertIs(type(wrong_links(pair)), int)
                    self.assertIn(found, right)
                    self.assertEqual(samples.changed_links(pair, found), wanted)

    def test_drawn_pairs_of_six_places(self):
        right = samples.right_pairs(6)
        for seed in range(40):
            for pair in (samples.mixed(6, seed), samples.close(6, seed)):
                with self.subTest(pair=pair):
                    wanted = min(samples.changed_links(pair, other) for other in right)
                    self.assertEqual(wrong_links(pair), wanted)
                    self.assertEqual(samples.changed_links(pair, mended(pair)), wanted)

    def test_nought_and_the_pair_itself_exactly_if_it_is_right(self):
        for pair in samples.some_right_pairs() + samples.all_pairs(4) + samples.large_pairs():
            with self.subTest(pair=pair):
                self.assertEqual(wrong_links(pair) == 0, is_right(pair))
                self.assertEqual(mended(pair) == pair, is_right(pair))

    def test_large_pairs(self):
        for pair in samples.large_pairs() + samples.drawn_pairs():
            found = mended(pair)
            with self.subTest(pair=pair):
                self.assertEqual(set(samples.counts_that_should_be_1(found)), {1})
                self.assertEqual(samples.changed_links(pair, found), wrong_links(pair))
                for other in (samples.plain, samples.totals, samples.by_powers):
                    self.assertLessEqual(wrong_links(pair), samples.changed_links(pair, other(len(pair[0]))))

    def test_turned_about_they_stay_as_many(self):
        for pair in samples.some_pairs() + samples.all_pairs(4):
            with self.subTest(pair=pair):
                self.assertEqual(wrong_links(turned(pair)), wrong_links(pair))

    def test_the_mended_pair_is_new(self):
        for pair in (([0, 1, 0], [2, 3, 4]), ([0, 0, 2], [2, 4, 4])):
            kept = copy.deepcopy(pair)
            found = mended(pair)
            self.assertIs(type(found), tuple)
            wanted = copy.deepcopy(found)
            for table in found:
                table.append(9)
            self.assertEqual((pair, mended(pair)), (kept, wanted))


class MendTables(unittest.TestCase):
    def test_known_tables(self):
        self.assertEqual(mend_table(([0], [2])), {(1, 1): 0})
        self.assertEqual(mend_table(([0, 0], [3, 3]))[1, 2], 1)

    def test_valid_tables_with_the_number_of_wrong_links(self):
        for pair in few_pairs() + samples.large_pairs() + samples.some_right_pairs():
            table = mend_table(pair)
            places = len(pair[0])
            with self.subTest(pair=pair):
                self.assertIs(type(table), dict)
                self.assertEqual(sorted(table), keys(places))
                self.assertEqual({type(part) for key in table for part in (key, *key)}, {tuple, int})
                self.assertEqual({type(number) for number in table.values()}, {int})
                self.assertTrue(is_valid(pair, table))
                self.assertIs(is_mend_table(pair, table), True)
                self.assertEqual(table[1, places], wrong_links(pair))

    def test_a_valid_table_shows_that_no_fewer_links_are_wrong(self):
        for pair in few_pairs():
            places = len(pair[0])
            for key in keys(places):
                for number in range(-1, 2 * places + 1):
                    table = {**mend_table(pair), key: number}
                    if is_mend_table(pair, table):
                        self.assertLessEqual(table[1, places], defined_wrong_links(pair))

    def test_one_number_more_or_less(self):
        outcomes = {True: 0, False: 0}
        for pair in few_pairs():
            for key, more in itertools.product(keys(len(pair[0])), (-samples.NINETEEN, -2, -1, 1, 2, samples.TWENTY)):
                table = mend_table(pair)
                table[key] += more
                wanted = is_valid(pair, table)
                outcomes[wanted] += 1
                with self.subTest(pair=pair, key=key, more=more):
                    self.assertIs(is_mend_table(pair, table), wanted)
                self.assertFalse(wanted and key == (1, len(pair[0])) and more > 0)
        self.assertGreater(outcomes[True], 100)
        self.assertGreater(outcomes[False], 100)

    def test_a_key_left_out_or_put_in(self):
        for pair in (([0], [2]), ([0, 0], [3, 3]), ([0, 1, 0], [2, 3, 4]), samples.mixed(16, 1)):
            places = len(pair[0])
            for key in keys(places):
                table = mend_table(pair)
                table.pop(key)
                with self.subTest(places=places, key=key):
                    self.assertIs(is_mend_table(pair, table), False)
                    for other in [(0, 0), (2, 1), None, "1", 1, (1,), (1, places, 1), (1, places + 1), (key,)]:
                        self.assertIs(is_mend_table(pair, {**mend_table(pair), other: 0}), False)
                        self.assertIs(is_mend_table(pair, {**table, other: 0}), False)
            self.assertIs(is_mend_table(pair, {}), False)

    def test_keys_as_python_compares_them(self):
        self.assertIs(is_mend_table(([0, 1], [3, 3]), {(2, 2.0): 0, (1, 2): 0, (True, 1): 0}), True)
        self.assertIs(is_mend_table(([0, 1], [3, 3]), {(2, 2.0): 0, (1, 2): 1, (True, 1): 0}), False)

    def test_values_that_are_no_whole_numbers(self):
        pair = ([0, 1, 0], [2, 3, 4])
        for thing in NO_NUMBERS + [NoWholeThing()]:
            for key in keys(3):
                table = {other: 0 for other in keys(3)}
                self.assertIs(is_mend_table(pair, table), True)
                table[key] = thing
                with self.subTest(thing=type(thing), key=key):
                    self.assertIs(is_mend_table(pair, table), False)

    def test_things_that_are_no_dicts(self):
        for thing in NO_NUMBERS + [NoWholeThing(), 0, [], [(1, 1)], keys(1), dict, (((1, 1), 0),), {(1, 1)}]:
            if not isinstance(thing, dict):
                with self.subTest(thing=type(thing)):
                    self.assertIs(is_mend_table(([0], [2]), thing), False)

    def test_each_table_is_new_and_what_is_passed_in_stays_as_it_was(self):
        pair = ([0, 1, 0], [2, 3, 4])
        table = mend_table(pair)
        wanted = dict(table)
        self.assertIs(is_mend_table(pair, table), True)
        self.assertEqual((pair, table), (([0, 1, 0], [2, 3, 4]), wanted))
        table.clear()
        self.assertEqual(mend_table(pair), wanted)


class OneWrongLink(unittest.TestCase):
    def test_the_counts_that_are_not_right_any_more(self):
        for pair in [pair for places in range(1, 6) for pair in samples.right_pairs(places)]:
            self.check(pair)

    def test_large_pairs(self):
        for pair in samples.some_right_pairs():
            if len(pair[0]) in (7, 9):
                self.check(pair)

    def check(self, pair):
        places = range(1, len(pair[0]) + 1)
        for new, table, k, old, link in one_changed(pair):
            low, high = min(old, link), max(old, link)
            if table == 0:
                often = 2 if link > old else 0
                wrong = {(i, j): often for i in range(k, pair[1][k - 1]) for j in range(low + 1, high + 1)}
            else:
                often = 2 if link < old else 0
                wrong = {(i, j): often for i in range(low, high) for j in range(pair[0][k - 1] + 1, k + 1)}
            with self.subTest(pair=pair, new=new):
                wanted = [[wrong.get((i, j), int(j <= i)) for j in places] for i in places]
                self.assertEqual(counts(new), wanted)
                self.assertEqual(wrong_links(new), 1)
                self.assertIs(is_right(new), False)


class WrongArguments(Raising):
    def test_pairs_come_ahead_of_tables(self):
        self.check_pair_error(None, None, is_mend_table, None, None)
        self.check_pair_error("down", 2, is_mend_table, ([0, 2], [3, 3]), {})
        self.check_pair_error("up", 2, is_mend_table, ([0, 1], [3, 2]), {})


if __name__ == "__main__":
    unittest.main()
