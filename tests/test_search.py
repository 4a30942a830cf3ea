"""The first place whose total is great enough [34]."""

import random
import unittest

from linksums.errors import InvalidNumber, InvalidValues, NotRight
from linksums.search import reached
from linksums.trees import tree_of
from tests import samples
from tests.wrong_things import NO_NUMBERS, NoWholeThing, Raising

PAIR = ([0, 0, 2], [2, 4, 4])


def rows(places):
    """Rows of values that are not below 0."""
    some = random.Random(places)
    return [
        [0] * places,
        [1] * places,
        [k % 2 for k in range(places)],
        [(k + 1) % 2 for k in range(places)],
        [some.randint(0, 3) for _ in range(places)],
        [some.choice([0, samples.NINETEEN]) for _ in range(places)],
        [samples.TWENTY - k for k in range(places)],
    ]


def numbers(values):
    """0, numbers below 0, all totals and the numbers beside them, and numbers beyond all."""
    near = {total + more for total in samples.up_to(values) for more in (-1, 0, 1)}
    return sorted({0, 1, -1, -7, -samples.TWENTY, samples.TWENTY, sum(values) + 9, *near})


def first_place(values, least):
    """The first place whose total is at least a number, or one more than there are."""
    for place, total in enumerate(samples.up_to(values), 1):
        if total >= least:
            return place
    return len(values) + 1


def search(tree, values, least):
    """The search by the tree [34]: the place at which it last went to the left, and the cells at which it looks."""
    found, looks, first = len(values) + 1, 0, 1
    while tree is not None:
        left, root, right = tree
        cell = sum(values[first - 1:root])
        looks += 1
        if cell < least:
            least -= cell
            tree, first = right, root + 1
        else:
            tree, found = left, root
    return found, looks


class Search(unittest.TestCase):
    def test_known_searches(self):
        pair, values = ([0, 0, 2, 0, 4], [2, 4, 4, 6, 6]), [3, 1, 4, 1, 5]
        self.assertEqual(reached(pair, values, 8), (3, 3))
        self.assertEqual([reached(pair, values, least) for least in (-3, 0, 3, 4, 9, 10, 14, 15)],
                         [(1, 3), (1, 3), (1, 3), (2, 3), (4, 3), (5, 2), (5, 2), (6, 2)])
        self.assertEqual([reached(([0], [2]), [4], least) for least in (-1, 0, 4, 5)],
                         [(1, 1), (1, 1), (1, 1), (2, 1)])
        self.assertEqual([reached(([0], [2]), [0], least) for least in (0, 1)], [(1, 1), (2, 1)])

    def test_held_against_the_values_added_up_and_a_search_by_the_tree(self):
        for pair in samples.some_right_pairs():
            tree = tree_of(pair)
            for values in rows(len(pair[0])):
                for least in numbers(values):
                    with self.subTest(pair=pair, values=values, least=least):
                        found = reached(pair, values, least)
                        self.assertEqual(found, search(tree, values, least))
                        self.assertEqual(found[0], first_place(values, least))

    def test_the_looks_held_against_the_depths(self):
        for pair in samples.some_right_pairs():
            places = len(pair[0])
            spans = samples.subtrees(tree_of(pair), 1, places)
            depth = {place: len(ancestors) for place, (_, _, ancestors) in spans.items()}
            for values in rows(places):
                for least in numbers(values):
                    found, looks = reached(pair, values, least)
                    if found == 1:
                        wanted = depth[1]
                    elif found > places:
                        wanted = depth[places]
                    else:
                        wanted = max(depth[found], depth[found - 1])
                    with self.subTest(pair=pair, values=values, least=least):
                        self.assertEqual(looks, wanted)

    def test_sixteen_places(self):
        for least in range(-1, 19):
            wanted = max(1, min(least, 17))
            self.assertEqual(reached(samples.plain(16), [1] * 16, least), (wanted, min(wanted, 16)))
            self.assertEqual(reached(samples.totals(16), [1] * 16, least)[0], wanted)
            self.assertEqual(reached(samples.by_powers(16), [1] * 16, least)[0], wanted)
        self.assertEqual(reached(samples.by_powers(16), [0] * 16, 1), (17, 1))

    def test_it_is_a_tuple_of_two_numbers(self):
        found = reached(PAIR, [1, 2, 3], 2)
        self.assertIs(type(found), tuple)
        self.assertEqual([type(number) for number in found], [int, int])

    def test_by_name(self):
        self.assertEqual(reached(least=2, values=[1, 2, 3], pair=PAIR), reached(PAIR, [1, 2, 3], 2))


class WrongArguments(Raising):
    def test_values(self):
        for row in [None, 3, "abc", (1, 2, 3), {1: 1, 2: 2, 3: 3}, range(3), [], [1, 2], [1] * 4, [-1] * 4,
                    NoWholeThing()]:
            with self.subTest(row=type(row)):
                self.assertIsNone(self.raised(InvalidValues, reached, PAIR, row, None).place)
        for thing in NO_NUMBERS + [NoWholeThing(), -1, -samples.TWENTY]:
            for place, row in [(1, [thing, 2, 3]), (2, [1, thing, -1]), (3, [1, 2, thing]), (1, [thing] * 3)]:
                with self.subTest(thing=type(thing), place=place):
                    error = self.raised(InvalidValues, reached, PAIR, row, None)
                    self.assertEqual(error.place, place)
                    self.assertIsNot(type(error.place), bool)

    def test_numbers(self):
        for thing in NO_NUMBERS + [NoWholeThing()]:
            with self.subTest(thing=type(thing)):
                self.assertIs(self.raised(InvalidNumber, reached, PAIR, [1, 2, 3], thing).number, thing)

    def test_pairs(self):
        self.check_pair_error("down", 2, reached, ([0, 2], [3, 3]), None, None)
        self.check_pair_error(None, None, reached, None, None, None)
        for pair in samples.some_pairs():
            wrong = samples.first_wrong(pair)
            if wrong is not None:
                error = self.raised(NotRight, reached, pair, None, None)
                self.assertEqual((error.first, error.second), wrong)


if __name__ == "__main__":
    unittest.main()
