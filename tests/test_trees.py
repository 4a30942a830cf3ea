"""Right pairs [9], trees [10], one table that tells the other [11], looks [12], most places [13], turned about [31]."""

import itertools
import math
import unittest

from linksums.errors import InvalidTree
from linksums.links import cells_of, counts, walk_down, walk_up
from linksums.moves import back_moves, forward_moves
from linksums.signs import signed_sums
from linksums.trees import depths, down_for, is_right, pair_of, tree_of, turned, up_for
from tests import samples

POWERS = ((None, 1, None), 2, (None, 3, None)), 4, (None, 5, None)


def places_of(pair):
    return range(1, len(pair[0]) + 1)


def to_the_left(places):
    """The tree whose places all are in left trees."""
    tree = None
    for place in range(1, places + 1):
        tree = (tree, place, None)
    return tree


def to_the_right(places, first=1):
    """The tree whose places all are in right trees."""
    tree = None
    for place in range(places, first - 1, -1):
        tree = (None, place, tree)
    return tree


class RightPairs(unittest.TestCase):
    def test_known_pairs(self):
        self.assertIs(is_right(([0], [2])), True)
        self.assertIs(is_right(([0, 0], [2, 3])), True)
        self.assertIs(is_right(([0, 1], [3, 3])), True)
        self.assertIs(is_right(([0, 1], [2, 3])), False)
        self.assertIs(is_right(([0, 0], [3, 3])), False)
        self.assertIs(is_right(([0, 1, 0], [2, 3, 4])), False)
        # Of the mixes of two right pairs one counts twice, the other one misses.
        self.assertIs(is_right((samples.plain(16)[0], samples.totals(16)[1])), False)
        self.assertIs(is_right((samples.totals(16)[0], samples.plain(16)[1])), False)

    def test_held_against_the_counts(self):
        for pair in samples.some_pairs() + samples.all_pairs(4) + samples.some_right_pairs():
            with self.subTest(pair=pair):
                self.assertIs(is_right(pair), samples.first_wrong(pair) is None)

    def test_held_against_the_signed_sums(self):
        for pair in samples.some_pairs() + samples.all_pairs(4):
            with self.subTest(pair=pair):
                wanted = [(k + 1, k, 1) for k in range(1, len(pair[0]))]
                self.assertIs(is_right(pair), signed_sums(pair) == wanted)

    def test_right_pairs_tell_the_sums_and_others_do_not(self):
        for pair in samples.some_pairs() + samples.all_pairs(4)[::3] + samples.some_right_pairs():
            places = len(pair[0])
            ones = [[int(k == place) for k in range(places)] for place in range(places)]
            right = all(samples.told_totals(pair, values) == samples.up_to(values) for values in ones)
            with self.subTest(pair=pair):
                self.assertIs(is_right(pair), right)

    def test_they_are_those_of_the_trees(self):
        for places in (1, 2, 3, 4):
            right = samples.right_pairs(places)
            for pair in samples.all_pairs(places):
                with self.subTest(pair=pair):
                    self.assertIs(is_right(pair), pair in right)

    def test_they_are_told_by_the_walks(self):
        for pair in samples.some_pairs() + samples.all_pairs(4) + samples.some_right_pairs():
            with self.subTest(pair=pair):
                self.assertIs(is_right(pair), all(self.told(pair, i) for i in places_of(pair)[1:]))

    def told(self, pair, i):
        """Whether the walk down from the place ahead of i is as [11] says."""
        down, up = pair
        walk, end = samples.defined_walk(down, i - 1, 0), down[i - 1]
        if end != 0 and end not in walk:
            return False
        ahead = walk[:walk.index(end)] if end else walk
        return sorted(ahead) == [j for j in places_of(pair) if up[j - 1] == i]


class OneTableTellsTheOther(unittest.TestCase):
    def test_one_place(self):
        self.assertEqual(up_for([0]), [2])
        self.assertEqual(down_for([2]), [0])

    def test_known_tables(self):
        self.assertEqual(up_for([0, 0, 2, 0, 4]), [2, 4, 4, 6, 6])
        self.assertEqual(down_for([2, 4, 4, 6, 6]), [0, 0, 2, 0, 4])
        self.assertIsNone(up_for([0, 0, 1]))
        self.assertIsNone(down_for([3, 4, 4]))

    def test_held_against_all_pairs(self):
        for places in (1, 2, 3, 4):
            right = [pair for pair in samples.all_pairs(places) if samples.first_wrong(pair) is None]
            for down in samples.all_downs(places):
                with self.subTest(down=down):
                    self.assertIn([up_for(down)], ([pair[1] for pair in right if pair[0] == down], [None]))
                    self.assertEqual(up_for(down) is None, down not in [pair[0] for pair in right])
            for up in samples.all_ups(places):
                with self.subTest(up=up):
                    self.assertIn([down_for(up)], ([pair[0] for pair in right if pair[1] == up], [None]))
                    self.assertEqual(down_for(up) is None, up not in [pair[1] for pair in right])

    def test_right_pairs(self):
        for down, up in samples.some_right_pairs():
            with self.subTest(down=down):
                self.assertEqual(up_for(down), up)
                self.assertEqual(down_for(up), down)

    def test_large_tables_that_belong_to_none(self):
        found = 0
        for down, up in samples.large_pairs():
            with self.subTest(down=down, up=up):
                self.assertEqual(up_for(down) is None, not self.down_fits(down))
                self.assertEqual(down_for(up) is None, not self.up_fits(up))
                found += up_for(down) is None
        self.assertGreater(found, 10)

    def down_fits(self, down):
        """The condition of [11] for a down table."""
        places = range(1, len(down) + 1)
        return all(down[j - 1] >= down[k - 1] for k in places for j in range(down[k - 1] + 1, k))

    def up_fits(self, up):
        """The condition of [11] for an up table."""
        places = range(1, len(up) + 1)
        return all(up[k - 1] <= up[j - 1] for j in places for k in range(j + 1, up[j - 1]))

    def test_the_conditions_for_all_tables_of_five_places(self):
        right = samples.right_pairs(5)
        for down in samples.all_downs(5):
            with self.subTest(down=down):
                self.assertEqual(up_for(down) is not None, self.down_fits(down))
                self.assertEqual(up_for(down) is not None, down in [pair[0] for pair in right])
        for up in samples.all_ups(5):
            with self.subTest(up=up):
                self.assertEqual(down_for(up) is not None, self.up_fits(up))
                self.assertEqual(down_for(up) is not None, up in [pair[1] for pair in right])

    def test_they_are_lists_of_numbers(self):
        for found in (up_for([0, 1, 2]), down_for([2, 3, 4])):
            self.assertIs(type(found), list)
            self.assertEqual([type(link) for link in found], [int, int, int])


class Trees(unittest.TestCase):
    def test_one_place(self):
        self.assertEqual(tree_of(([0], [2])), (None, 1, None))
        self.assertEqual(pair_of((None, 1, None)), ([0], [2]))

    def test_known_trees(self):
        self.assertEqual(tree_of(([0, 0, 2, 0, 4], [2, 4, 4, 6, 6])), POWERS)
        self.assertEqual(pair_of(POWERS), ([0, 0, 2, 0, 4], [2, 4, 4, 6, 6]))
        self.assertEqual(tree_of(([0, 1, 0], [3, 3, 4])), ((None, 1, (None, 2, None)), 3, None))
        self.assertEqual(pair_of((None, 1, ((None, 2, None), 3, None))), ([0, 1, 1], [4, 3, 4]))

    def test_trees_that_go_all_to_one_side(self):
        self.assertEqual(pair_of(to_the_left(16)), samples.totals(16))
        self.assertEqual(tree_of(samples.totals(16)), to_the_left(16))
        self.assertEqual(pair_of(to_the_right(16)), samples.plain(16))
        self.assertEqual(tree_of(samples.plain(16)), to_the_right(16))

    def test_each_is_the_inverse_of_the_other(self):
        for places in (1, 2, 3, 4, 5):
            trees = samples.all_trees(1, places)
            pairs = [pair_of(tree) for tree in trees]
            self.assertEqual(len({str(pair) for pair in pairs}), math.comb(2 * places, places) // (places + 1))
            for tree, pair in zip(trees, pairs):
                with self.subTest(tree=tree):
                    self.assertEqual(pair, samples.defined_pair(tree, places))
                    self.assertEqual(tree_of(pair), tree)
                    self.assertEqual(pair_of(tree_of(pair)), pair)

    def test_large_trees(self):
        for places, tree in samples.large_trees():
            with self.subTest(tree=tree):
                self.assertEqual(pair_of(tree), samples.defined_pair(tree, places))
                self.assertEqual(tree_of(pair_of(tree)), tree)

    def test_all_right_pairs_have_just_one_tree(self):
        for places in (1, 2, 3, 4):
            trees = samples.all_trees(1, places)
            for pair in samples.all_pairs(places):
                if samples.first_wrong(pair) is None:
                    with self.subTest(pair=pair):
                        fitting = [tree for tree in trees if samples.defined_pair(tree, places) == pair]
                        self.assertEqual([tree_of(pair)], fitting)

    def test_walks_have_the_ancestors(self):
        for pair in samples.some_right_pairs():
            places = len(pair[0])
            spans = samples.subtrees(tree_of(pair), 1, places)
            for place in places_of(pair):
                ancestors = sorted(spans[place][2])
                with self.subTest(pair=pair, place=place):
                    self.assertEqual(sorted(walk_down(pair[0], place)), [k for k in ancestors if k <= place])
                    self.assertEqual(walk_up(pair[1], place), [k for k in ancestors if k >= place])

    def test_cells_are_sums_of_values(self):
        for pair in samples.some_right_pairs():
            spans = samples.subtrees(tree_of(pair), 1, len(pair[0]))
            for values in samples.rows_of_numbers(len(pair[0])):
                wanted = [sum(values[spans[k][0] - 1:k]) for k in places_of(pair)]
                with self.subTest(pair=pair, values=values):
                    self.assertEqual(cells_of(pair[1], values), wanted)

    def test_a_pair_is_a_tuple_of_two_lists_of_numbers(self):
        pair = pair_of(POWERS)
        self.assertIs(type(pair), tuple)
        self.assertEqual([type(table) for table in pair], [list, list])
        self.assertEqual({type(link) for table in pair for link in table}, {int})

    def test_a_tree_is_made_of_tuples(self):
        left, root, right = tree_of(([0, 0], [2, 3]))
        self.assertEqual((type(left), type(root), type(right)), (tuple, int, type(None)))


class NoTrees(unittest.TestCase):
    def check(self, things):
        for thing in things:
            with self.subTest(thing=repr(thing)[:60]):
                with self.assertRaises(InvalidTree) as caught:
                    pair_of(thing)
                self.assertIs(type(caught.exception), InvalidTree)
                self.assertEqual(vars(caught.exception), {})

    def test_other_kinds_of_things(self):
        things = [True, False, 0, 1, "", "1", b"1", 1.0, [], [None, 1, None], {}, {1: None}, {1}, object(), range(3)]
        self.check(things)
        self.check([(thing, 1, None) for thing in things])
        self.check([(None, 1, thing) for thing in things])
        self.check([((None, 1, thing), 2, None) for thing in things])

    def test_the_empty_tree(self):
        self.check([None])

    def test_tuples_of_other_lengths(self):
        things = [(), (1,), (None,), (None, 1), (1, None), (None, 1, None, None), (None, None, 1, None)]
        self.check(things)
        self.check([(None, 1, thing) for thing in things])
        self.check([(thing, 2, None) for thing in things])

    def test_lists_for_tuples(self):
        self.check([
            [None, 1, None], ([None, 1, None], 2, None), (None, 1, [None, 2, None]), [(None, 1, None), 2, None],
            ([], 1, None), (None, 1, []),
        ])

    def test_roots_that_are_no_places(self):
        roots = [True, False, None, "1", b"1", 1.0, [1], (1,), (None, 1, None), 0, -1, 2, 17, samples.TWENTY, object()]
        self.check([(None, root, None) for root in roots])
        self.check([((None, 1, None), root, None) for root in roots if root != 2])
        self.check([(None, root, (None, 2, None)) for root in roots])

    def test_true_for_a_place(self):
        self.check([(None, True, None), (None, True, (None, 2, None)), ((None, True, None), 2, None)])

    def test_a_place_twice_missing_or_out_of_order(self):
        self.check([
            (None, 1, (None, 1, None)), ((None, 1, None), 1, None), ((None, 2, None), 2, None),
            ((None, 1, None), 2, (None, 2, None)), ((None, 1, None), 3, None), (None, 2, (None, 3, None)),
            ((None, 2, None), 1, None), (None, 2, (None, 1, None)), ((None, 1, None), 3, (None, 2, None)),
            ((None, 1, None), 2, (None, 4, None)), ((None, 0, None), 1, None), (None, -1, (None, 0, None)),
            to_the_right(16, first=2),
        ])

    def test_wrong_places_of_otherwise_right_trees(self):
        for tree in samples.all_trees(1, 3):
            for places in itertools.product(range(5), repeat=3):
                if places != (1, 2, 3):
                    self.check([self.named(tree, places)])

    def named(self, tree, places):
        """A tree of the form of another one, with these places from left to right."""
        if tree is None:
            return None
        left, root, right = tree
        return (self.named(left, places), places[root - 1], self.named(right, places))

    def test_sixteen_places_are_the_most(self):
        self.assertEqual(tree_of(pair_of(to_the_left(16))), to_the_left(16))
        self.check([to_the_left(17), to_the_right(17), to_the_left(40), to_the_right(100), to_the_left(100)])

    def test_deep_and_large_things(self):
        wide = None
        for _ in range(8):
            wide = (wide, 1, wide)
        self.check([wide])
        deep = 3
        for _ in range(99):
            deep = (deep,)
        self.check([deep, (None, 1, deep)])


class Looks(unittest.TestCase):
    def test_known_depths(self):
        self.assertEqual(depths(([0], [2])), [1])
        self.assertEqual(depths(([0, 0, 2, 0, 4], [2, 4, 4, 6, 6])), [3, 2, 3, 1, 2])
        self.assertEqual(depths(samples.plain(16)), list(range(1, 17)))
        self.assertEqual(depths(samples.totals(16)), list(range(16, 0, -1)))

    def test_they_are_the_numbers_of_ancestors(self):
        for pair in samples.some_right_pairs():
            spans = samples.subtrees(tree_of(pair), 1, len(pair[0]))
            with self.subTest(pair=pair):
                self.assertEqual(depths(pair), [len(spans[place][2]) for place in places_of(pair)])

    def test_both_walks_have_one_place_more(self):
        for pair in samples.some_right_pairs():
            down, up = pair
            for place, depth in enumerate(depths(pair), 1):
                with self.subTest(pair=pair, place=place):
                    self.assertEqual(len(walk_down(down, place)) + len(walk_up(up, place)), depth + 1)

    def test_they_are_a_list_of_numbers(self):
        found = depths(samples.plain(3))
        self.assertIs(type(found), list)
        self.assertEqual([type(depth) for depth in found], [int, int, int])


class MostPlaces(unittest.TestCase):
    def longest(self, pair):
        """The most places of a walk down and of a walk up."""
        down, up = pair
        return (max(len(walk_down(down, k)) for k in places_of(pair)),
                max(len(walk_up(up, k)) for k in places_of(pair)))

    def check_bound(self, pairs, most):
        fullest = {}
        for pair in pairs:
            longest_down, longest_up = self.longest(pair)
            places = len(pair[0])
            for p, q in itertools.product(range(longest_down, most + 1), range(longest_up, most + 1)):
                bound = math.comb(p + q, p) - 1
                self.assertLessEqual(places, bound)
                if places == bound:
                    fullest.setdefault((p, q), []).append(pair)
        return fullest

    def test_right_pairs(self):
        pairs = [pair_of(tree) for places in range(1, 8) for tree in samples.all_trees(1, places)]
        fullest = self.check_bound(pairs, 7)
        self.assertEqual(fullest[2, 2], [([0, 1, 0, 3, 3], [3, 3, 6, 5, 6])])
        short = [(p, q) for p, q in itertools.product(range(1, 8), repeat=2) if math.comb(p + q, p) - 1 <= 7]
        self.assertEqual(sorted(fullest), short)
        self.assertEqual({len(found) for found in fullest.values()}, {1})

    def test_pairs_that_never_miss(self):
        pairs = []
        for pair in [pair for places in (1, 2, 3, 4) for pair in samples.all_pairs(places)]:
            often = counts(pair)
            if all(often[i - 1][j - 1] >= 1 for i in places_of(pair) for j in range(1, i + 1)):
                pairs.append(pair)
        for found in self.check_bound(pairs, 4).values():
            self.assertEqual(len(found), 1)
            self.assertIs(is_right(found[0]), True)


class TurnedAbout(unittest.TestCase):
    def test_known_pairs(self):
        self.assertEqual(turned(([0], [2])), ([0], [2]))
        self.assertEqual(turned(([0, 0], [2, 3])), ([0, 1], [3, 3]))
        self.assertEqual(turned(([0, 1, 0], [2, 3, 4])), ([0, 1, 2], [4, 3, 4]))
        self.assertEqual(turned(samples.plain(16)), samples.totals(16))

    def test_turned_twice(self):
        for pair in samples.some_pairs() + samples.all_pairs(4):
            with self.subTest(pair=pair):
                self.assertEqual(turned(turned(pair)), pair)

    def test_the_links(self):
        for pair in samples.some_pairs() + samples.all_pairs(4):
            end = len(pair[0]) + 1
            down, up = turned(pair)
            for place in places_of(pair):
                with self.subTest(pair=pair, place=place):
                    self.assertEqual(down[place - 1], end - pair[1][end - place - 1])
                    self.assertEqual(up[place - 1], end - pair[0][end - place - 1])

    def test_the_counts(self):
        for pair in samples.some_pairs() + samples.all_pairs(4)[::3]:
            often, turned_often = samples.defined_counts(pair), samples.defined_counts(turned(pair))
            last = len(often)
            with self.subTest(pair=pair):
                for i in places_of(pair):
                    for j in places_of(pair):
                        self.assertEqual(turned_often[i - 1][j - 1], often[last - j][last - i])

    def test_forward_moves_become_back_moves(self):
        for pair in samples.some_pairs() + samples.some_right_pairs() + samples.all_pairs(4)[::3]:
            end = len(pair[0]) + 1
            with self.subTest(pair=pair):
                wanted = sorted((end - y, end - x) for x, y in forward_moves(pair))
                self.assertEqual(back_moves(turned(pair)), wanted)
                wanted = sorted((end - y, end - x) for x, y in back_moves(pair))
                self.assertEqual(forward_moves(turned(pair)), wanted)

    def test_right_pairs_stay_right(self):
        for pair in samples.some_pairs() + samples.some_right_pairs():
            with self.subTest(pair=pair):
                self.assertIs(is_right(turned(pair)), is_right(pair))

    def test_a_pair_is_a_tuple_of_two_lists(self):
        pair = turned(([0, 0], [2, 3]))
        self.assertIs(type(pair), tuple)
        self.assertEqual([type(table) for table in pair], [list, list])


if __name__ == "__main__":
    unittest.main()
