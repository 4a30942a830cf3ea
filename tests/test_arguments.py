"""What all functions share: how they are called, what they check, and that they change nothing [2], [3]."""

import copy
import unittest

from linksums import books, covers, joins, links, lists, mends, moves, order, prices, search, signs, text, trees
from linksums.errors import (InvalidNumber, InvalidPair, InvalidTree, InvalidValues, NoMove, NotRight, UnequalPairs,
                             UnknownPlace)
from tests import samples
from tests.wrong_things import (NO_NUMBERS, NO_PLACES, NoWholeThing, Raising, no_tables, no_two_tables, two,
                                wrong_downs, wrong_ups)

PAIR = ([0, 1, 0], [2, 3, 4])
OTHER = ([0, 1, 2], [4, 4, 4])
RIGHT = ([0, 0, 2], [2, 4, 4])
# The counts of its places 2 and 1, and of 3 and 1, are 0.
MISSING = ([0, 0, 2], [4, 4, 4])
TREE = ((None, 1, None), 2, (None, 3, None))
DOWN, UP = PAIR
ROW = [5, -6, 7]
ASKED, CHANGED = [3, 0, 4], [1, 5, 0]
PRICES, MENDS = prices.price_table(ASKED, CHANGED), mends.mend_table(PAIR)

# Each function with the names of its parameters and right arguments for them.
CALLS = [
    (links.walk_down, {"down": DOWN, "place": 2}),
    (links.walk_up, {"up": UP, "place": 1}),
    (links.count, {"pair": PAIR, "first": 2, "second": 1}),
    (links.counts, {"pair": PAIR}),
    (links.cells_of, {"up": UP, "values": ROW}),
    (links.values_of, {"up": UP, "cells": ROW}),
    (links.total, {"down": DOWN, "cells": ROW, "place": 2}),
    (signs.signed_sums, {"pair": PAIR}),
    (signs.are_alike, {"pair": PAIR, "other": OTHER}),
    (signs.parting, {"pair": PAIR, "other": OTHER}),
    (signs.alike_pairs, {"pair": PAIR}),
    (covers.covers, {"pair": PAIR}),
    (covers.right_totals, {"pair": PAIR, "totals": ROW}),
    (covers.values_by_totals, {"pair": PAIR, "totals": ROW}),
    (covers.right_changes, {"pair": PAIR, "place": 1, "more": -4}),
    (trees.is_right, {"pair": PAIR}),
    (trees.up_for, {"down": RIGHT[0]}),
    (trees.down_for, {"up": RIGHT[1]}),
    (trees.tree_of, {"pair": RIGHT}),
    (trees.pair_of, {"tree": TREE}),
    (trees.depths, {"pair": RIGHT}),
    (trees.turned, {"pair": PAIR}),
    (moves.forward_moves, {"pair": RIGHT}),
    (moves.back_moves, {"pair": RIGHT}),
    (moves.moved, {"pair": RIGHT, "move": (1, 2)}),
    (order.Links, {"pair": RIGHT}),
    (order.Links.fits, {"pair": RIGHT}),
    (order.Links.by_powers, {"places": 6}),
    (lists.count_right, {"places": 5}),
    (lists.pair_number, {"pair": RIGHT}),
    (lists.numbered_pair, {"places": 4, "number": 9}),
    (lists.count_within, {"places": 5, "down_most": 2, "up_most": 3}),
    (lists.most_places, {"down_most": 2, "up_most": 3}),
    (lists.fullest_pair, {"down_most": 2, "up_most": 3}),
    (lists.count_by_looks, {"places": 3, "down_all": 4, "up_all": 5}),
    (joins.limits, {"down": DOWN}),
    (joins.never_misses, {"pair": PAIR}),
    (joins.never_twice, {"pair": PAIR}),
    (joins.count_never_missing, {"down": DOWN}),
    (joins.right_within, {"pair": PAIR}),
    (joins.clashes, {"pair": MISSING}),
    (joins.clashes_apart, {"pair": MISSING}),
    (joins.nearest_never_missing, {"pair": MISSING}),
    (prices.price, {"pair": PAIR, "asked": ASKED, "changed": CHANGED}),
    (prices.cheapest, {"asked": ASKED, "changed": CHANGED}),
    (prices.price_table, {"asked": ASKED, "changed": CHANGED}),
    (prices.is_price_table, {"asked": ASKED, "changed": CHANGED, "table": PRICES}),
    (mends.wrong_links, {"pair": PAIR}),
    (mends.mended, {"pair": PAIR}),
    (mends.mend_table, {"pair": PAIR}),
    (mends.is_mend_table, {"pair": PAIR, "table": MENDS}),
    (search.reached, {"pair": RIGHT, "values": ASKED, "least": 4}),
    (text.format_pair, {"pair": PAIR}),
    (text.parse_pair, {"text": "0 1 0\n2 3 4"}),
]

# What may be anything, so that no error is stated for it.
ANYTHING = ["table"]


class Calling(unittest.TestCase):
    def test_by_position_and_by_name(self):
        for function, named in CALLS:
            with self.subTest(function.__name__):
                found = function(*named.values())
                self.assertEqual(function(**named), found)
                self.assertEqual(function(**dict(reversed(list(named.items())))), found)
                first = list(named)[0]
                rest = {name: named[name] for name in named if name != first}
                self.assertEqual(function(named[first], **rest), found)

    def test_again_with_equal_arguments(self):
        for function, named in CALLS:
            with self.subTest(function.__name__):
                found = function(**named)
                for _ in range(3):
                    self.assertEqual(function(**copy.deepcopy(named)), found)

    def test_arguments_stay_as_they_were(self):
        for function, named in CALLS:
            with self.subTest(function.__name__):
                kept = copy.deepcopy(named)
                parts = [id(part) for part in samples.lists_in(list(named.values()))[1:]]
                function(**named)
                self.assertEqual(named, kept)
                self.assertEqual([id(part) for part in samples.lists_in(list(named.values()))[1:]], parts)

    def test_arguments_stay_as_they_were_for_all_pairs(self):
        for pair in samples.some_pairs():
            kept = copy.deepcopy(pair)
            places = len(pair[0])
            row = list(range(places))
            links.counts(pair)
            links.count(pair, places, 1)
            links.walk_down(pair[0], places)
            links.walk_up(pair[1], 1)
            links.total(pair[0], row, places)
            links.cells_of(pair[1], row)
            links.values_of(pair[1], row)
            signs.signed_sums(pair)
            signs.are_alike(pair, samples.plain(places))
            signs.parting(pair, samples.plain(places))
            covers.covers(pair)
            covers.right_totals(pair, row)
            covers.values_by_totals(pair, row)
            covers.right_changes(pair, 1, 3)
            trees.is_right(pair)
            trees.up_for(pair[0])
            trees.down_for(pair[1])
            trees.turned(pair)
            joins.limits(pair[0])
            joins.never_misses(pair)
            joins.never_twice(pair)
            joins.count_never_missing(pair[0])
            joins.right_within(pair)
            joins.clashes(pair)
            joins.clashes_apart(pair)
            joins.nearest_never_missing(pair)
            prices.price(pair, row, row)
            mends.wrong_links(pair)
            mends.mended(pair)
            mends.is_mend_table(pair, mends.mend_table(pair))
            text.format_pair(pair)
            books.Book(pair, row).turn(pair)
            books.LateBook(pair).raise_to(1, 1)
            books.Grid(pair, pair).change(1, 1, 1)
            for move in moves.forward_moves(pair) + moves.back_moves(pair):
                moves.moved(pair, move)
            order.Links.fits(pair)
            with self.subTest(pair=kept):
                self.assertEqual(pair, kept)
                self.assertEqual(row, list(range(places)))

    def test_right_pairs_stay_as_they_were(self):
        for pair in samples.some_right_pairs():
            kept = copy.deepcopy(pair)
            trees.tree_of(pair)
            trees.depths(pair)
            lists.pair_number(pair)
            search.reached(pair, list(range(len(pair[0]))), 3)
            found = order.Links(pair)
            found.below(found.above(found) | found & found).way_to(order.Links.plain(len(pair[0])))
            with self.subTest(pair=kept):
                self.assertEqual(pair, kept)

    def test_arguments_stay_as_they_were_where_an_error_is_raised(self):
        for function, named in CALLS:
            for name in [name for name in named if name not in ANYTHING]:
                wrong = copy.deepcopy(dict(named, **{name: ([0, 2], [2, 3])}))
                kept = copy.deepcopy(wrong)
                with self.subTest(function.__name__, name=name):
                    with self.assertRaises((ValueError, LookupError)):
                        function(**wrong)
                    self.assertEqual(wrong, kept)


class NewLists(unittest.TestCase):
    def test_what_is_returned_is_new(self):
        for function, named in CALLS:
            with self.subTest(function.__name__):
                named = copy.deepcopy(named)
                kept = copy.deepcopy(named)
                found = function(**named)
                wanted = copy.deepcopy(found)
                for part in samples.lists_in(found):
                    part.append(99)
                    part[0] = "changed"
                self.assertEqual(named, kept)
                self.assertEqual(function(**named), wanted)

    def test_later_changes_to_arguments_have_no_effect(self):
        for function, named in CALLS:
            with self.subTest(function.__name__):
                named = copy.deepcopy(named)
                found = function(**named)
                wanted = copy.deepcopy(found)
                for part in samples.lists_in(list(named.values())):
                    part[0] = "changed"
                    part.append(99)
                self.assertEqual(found, wanted)

    def test_no_list_stands_twice(self):
        for places in (1, 2, 3, 4):
            for pair in samples.all_pairs(places)[::7] + [samples.plain(places), samples.totals(places)]:
                for found in (links.counts(pair), signs.alike_pairs(pair), covers.covers(pair), trees.turned(pair),
                              joins.nearest_never_missing(pair), joins.right_within(pair), mends.mended(pair),
                              text.parse_pair(text.format_pair(pair)), books.Book(pair, [0] * places).tables):
                    with self.subTest(pair=pair, found=found):
                        self.check_apart(found, pair)

    def test_no_list_stands_twice_in_the_counts_of_sixteen_places(self):
        pair = samples.plain(16)
        self.check_apart(links.counts(pair), pair)
        self.check_apart(covers.covers(pair), pair)

    def test_lists_that_equal_what_was_passed_are_new(self):
        for pair in samples.some_right_pairs():
            places = len(pair[0])
            told = list(range(places))
            self.assertIsNot(covers.right_totals(pair, told), told)
            self.assertIsNot(covers.values_by_totals(two(places), told), told)
            for move in moves.forward_moves(pair) + moves.back_moves(pair):
                self.check_apart(moves.moved(pair, move), pair)
            self.check_apart(trees.turned(pair), pair)
            self.check_apart((trees.up_for(pair[0]), trees.down_for(pair[1])), pair)
            self.check_apart(trees.pair_of(trees.tree_of(pair)), pair)
            self.check_apart(order.Links(pair).pair, pair)
            self.check_apart(joins.nearest_never_missing(pair), pair)
            self.check_apart(mends.mended(pair), pair)
            self.check_apart((joins.right_within(pair), joins.limits(pair[0])), pair)

    def test_lists_that_equal_an_argument_are_new(self):
        values = [1, 2, 3]
        self.assertIsNot(links.cells_of([4, 4, 4], values), values)
        self.assertIsNot(links.values_of([4, 4, 4], values), values)
        self.assertEqual(links.cells_of([4, 4, 4], values), values)
        self.assertEqual(links.values_of([4, 4, 4], values), values)

    def check_apart(self, found, pair):
        parts = samples.lists_in(found)
        self.assertEqual(len({id(part) for part in parts}), len(parts))
        for part in parts:
            self.assertIsNot(part, pair[0])
            self.assertIsNot(part, pair[1])


def turned_book(pair):
    """A book of one place that is turned to a pair."""
    return books.Book(([0], [2]), [1]).turn(pair)


def pair_calls(pair):
    """All calls to which a pair is passed, with other arguments that are right."""
    return [
        (links.count, pair, 1, 1), (links.counts, pair), (signs.signed_sums, pair), (signs.alike_pairs, pair),
        (signs.are_alike, pair, ([0], [2])), (signs.are_alike, ([0], [2]), pair),
        (signs.parting, pair, ([0], [2])), (signs.parting, ([0], [2]), pair),
        (covers.covers, pair), (covers.right_totals, pair, [1]), (covers.values_by_totals, pair, [1]),
        (covers.right_changes, pair, 1, 1), (trees.is_right, pair), (trees.tree_of, pair), (trees.depths, pair),
        (trees.turned, pair), (moves.forward_moves, pair), (moves.back_moves, pair), (moves.moved, pair, (1, 2)),
        (order.Links, pair), (order.Links.fits, pair), (lists.pair_number, pair), (joins.never_misses, pair),
        (joins.never_twice, pair), (joins.right_within, pair), (joins.clashes, pair), (joins.clashes_apart, pair),
        (joins.nearest_never_missing, pair), (joins.JoinBook, pair, max, 0), (joins.OrderBook, pair, max, [1]),
        (prices.price, pair, [1], [1]), (mends.wrong_links, pair), (mends.mended, pair), (mends.mend_table, pair),
        (mends.is_mend_table, pair, {(1, 1): 0}), (books.Book, pair, [1]), (turned_book, pair),
        (books.LateBook, pair), (books.Grid, pair, ([0], [2])), (books.Grid, ([0], [2]), pair),
        (search.reached, pair, [1], 1), (text.format_pair, pair),
    ]


class WrongPairs(Raising):
    def test_no_two_tables(self):
        for thing in no_two_tables():
            for call in pair_calls(thing):
                with self.subTest(call=call[0].__name__, thing=type(thing)):
                    self.check_pair_error(None, None, *call)

    def test_wrong_down_links(self):
        for down, place in wrong_downs():
            up = two(len(down))[1]
            for call in pair_calls((down, up)):
                with self.subTest(call=call[0].__name__, place=place):
                    self.check_pair_error("down", place, *call)

    def test_wrong_up_links(self):
        for up, place in wrong_ups():
            down = two(len(up))[0]
            for call in pair_calls((down, up)):
                with self.subTest(call=call[0].__name__, place=place):
                    self.check_pair_error("up", place, *call)

    def test_down_links_come_first(self):
        for call in pair_calls(([0, 0, 3], [1, 9, None])):
            with self.subTest(call=call[0].__name__):
                self.check_pair_error("down", 3, *call)

    def test_the_tables_the_wrong_way_round(self):
        for call in pair_calls((UP, DOWN)):
            with self.subTest(call=call[0].__name__):
                self.check_pair_error("down", 1, *call)

    def test_sixteen_places_are_right(self):
        for pair in (samples.plain(16), samples.totals(16), two(16)):
            self.assertEqual(links.count(pair, 16, 16), 1)
            self.assertEqual(len(links.counts(pair)), 16)
            self.assertIsNone(signs.parting(pair, pair))
            self.assertIs(signs.are_alike(pair, pair), True)
            self.assertEqual(signs.signed_sums(pair), signs.signed_sums(copy.deepcopy(pair)))
            self.assertEqual(len(covers.covers(pair)), 16)
            self.assertEqual(len(covers.right_totals(pair, [1] * 16)), 16)
            self.assertEqual(len(covers.values_by_totals(pair, [1] * 16)), 16)
            self.assertEqual(len(covers.right_changes(pair, 16, 1)), 16)
            self.assertEqual(len(trees.turned(pair)[0]), 16)
            self.assertIs(trees.is_right(pair), pair != two(16))
            self.assertIs(order.Links.fits(pair), pair != two(16))
            self.assertIs(joins.never_misses(pair), pair != two(16))
            self.assertIs(joins.never_twice(pair), True)
            self.assertIs(joins.right_within(pair) is None, pair == two(16))
            self.assertEqual(len(joins.clashes(pair)), 120 if pair == two(16) else 0)
            self.assertEqual(len(joins.clashes_apart(pair)), 15 if pair == two(16) else 0)
            self.assertEqual(len(joins.nearest_never_missing(pair)[0]), 16)
            self.assertEqual(len(joins.JoinBook(pair, max, 0).cells), 16)
            self.assertGreaterEqual(prices.price(pair, [1] * 16, [1] * 16), 32)
            self.assertEqual(mends.wrong_links(pair), 15 if pair == two(16) else 0)
            self.assertEqual(len(mends.mended(pair)[1]), 16)
            self.assertIs(mends.is_mend_table(pair, mends.mend_table(pair)), True)
            self.assertEqual(len(books.Book(pair, [1] * 16)), 16)
            self.assertEqual(books.LateBook(pair).at(16), 0)
            self.assertEqual(books.Grid(pair, pair).total(16, 16), 0)
            self.assertEqual(text.parse_pair(text.format_pair(pair)), pair)


class WrongTables(Raising):
    def test_no_tables(self):
        for thing in no_tables():
            with self.subTest(thing=type(thing)):
                self.check_pair_error("down", None, links.walk_down, thing, 1)
                self.check_pair_error("down", None, links.total, thing, [1], 1)
                self.check_pair_error("down", None, trees.up_for, thing)
                self.check_pair_error("down", None, joins.limits, thing)
                self.check_pair_error("down", None, joins.count_never_missing, thing)
                self.check_pair_error("up", None, trees.down_for, thing)
                self.check_pair_error("up", None, links.walk_up, thing, 1)
                self.check_pair_error("up", None, links.cells_of, thing, [1])
                self.check_pair_error("up", None, links.values_of, thing, [1])

    def test_wrong_down_links(self):
        for down, place in wrong_downs():
            with self.subTest(place=place):
                self.check_pair_error("down", place, links.walk_down, down, 1)
                self.check_pair_error("down", place, links.total, down, [1] * len(down), 1)
                self.check_pair_error("down", place, trees.up_for, down)
                self.check_pair_error("down", place, joins.limits, down)
                self.check_pair_error("down", place, joins.count_never_missing, down)

    def test_wrong_up_links(self):
        for up, place in wrong_ups():
            with self.subTest(place=place):
                self.check_pair_error("up", place, links.walk_up, up, 1)
                self.check_pair_error("up", place, trees.down_for, up)
                self.check_pair_error("up", place, links.cells_of, up, [1] * len(up))
                self.check_pair_error("up", place, links.values_of, up, [1] * len(up))

    def test_sixteen_places_are_right(self):
        down, up = two(16)
        self.assertEqual(links.walk_down(down, 16), [16])
        self.assertEqual(links.walk_up(up, 16), [16])
        self.assertEqual(links.total(down, [2] * 16, 16), 2)
        self.assertEqual(trees.up_for(down), list(range(2, 18)))
        self.assertEqual(joins.limits(down), list(range(2, 18)))
        self.assertEqual(joins.count_never_missing(down), 1)
        self.assertEqual(trees.down_for(up), list(range(16)))
        self.assertEqual(links.cells_of(up, [2] * 16), [2] * 16)
        self.assertEqual(links.values_of(up, [2] * 16), [2] * 16)


class WrongPlaces(Raising):
    def check_place_error(self, place, function, *arguments):
        self.assertIs(self.raised(UnknownPlace, function, *arguments).place, place)

    def test_no_places(self):
        for thing in NO_PLACES + [NoWholeThing(), DOWN, PAIR, samples]:
            with self.subTest(thing=type(thing)):
                self.check_place_error(thing, links.walk_down, DOWN, thing)
                self.check_place_error(thing, links.walk_up, UP, thing)
                self.check_place_error(thing, links.total, DOWN, ROW, thing)
                self.check_place_error(thing, links.count, PAIR, thing, 1)
                self.check_place_error(thing, links.count, PAIR, 1, thing)
                self.check_place_error(thing, covers.right_changes, PAIR, thing, 1)

    def test_of_one_place_and_of_sixteen(self):
        for places in (1, 16):
            down, up = two(places)
            for thing in (0, places + 1):
                with self.subTest(places=places, thing=thing):
                    self.check_place_error(thing, links.walk_down, down, thing)
                    self.check_place_error(thing, links.walk_up, up, thing)
                    self.check_place_error(thing, links.total, down, [1] * places, thing)
                    self.check_place_error(thing, links.count, (down, up), thing, 1)
                    self.check_place_error(thing, links.count, (down, up), 1, thing)
                    self.check_place_error(thing, covers.right_changes, (down, up), thing, 1)

    def test_the_first_place_comes_first(self):
        for first in (4, None, "b"):
            for second in (0, False, "a"):
                with self.subTest(first=first, second=second):
                    self.check_place_error(first, links.count, PAIR, first, second)


class WrongValues(Raising):
    CALLED = [
        lambda row: links.cells_of([2, 3, 4], row),
        lambda row: links.values_of([2, 3, 4], row),
        lambda row: links.total([0, 1, 2], row, 1),
        lambda row: covers.right_totals(PAIR, row),
        lambda row: covers.values_by_totals(PAIR, row),
    ]

    def check_values_error(self, place, row):
        for function in self.CALLED:
            error = self.raised(InvalidValues, function, row)
            self.assertEqual(error.place, place)
            self.assertIsNot(type(error.place), bool)

    def test_no_list_of_so_many(self):
        for thing in [None, True, 3, "abc", b"abc", (1, 2, 3), {1: 1, 2: 2, 3: 3}, {1, 2, 3}, range(3), object(),
                      NoWholeThing(), [], [1], [1, 2], [1, 2, 3, 4], [None] * 2, [None] * 4, [1] * 17]:
            with self.subTest(thing=type(thing)):
                self.check_values_error(None, thing)

    def test_no_numbers(self):
        for thing in NO_NUMBERS + [NoWholeThing()]:
            with self.subTest(thing=type(thing)):
                self.check_values_error(1, [thing, 2, 3])
                self.check_values_error(2, [1, thing, 3])
                self.check_values_error(3, [1, 2, thing])
                self.check_values_error(2, [1, thing, None])
                self.check_values_error(1, [thing] * 3)

    def test_sixteen_places(self):
        down, up = two(16)
        for function, table in ((links.cells_of, up), (links.values_of, up)):
            self.assertIsNone(self.raised(InvalidValues, function, table, [1] * 15).place)
            self.assertIsNone(self.raised(InvalidValues, function, table, [1] * 17).place)
            self.assertEqual(self.raised(InvalidValues, function, table, [1] * 15 + [True]).place, 16)
        self.assertEqual(self.raised(InvalidValues, links.total, down, [1] * 15 + ["1"], 1).place, 16)

    def test_any_whole_numbers_are_right(self):
        row = [-samples.TWENTY, 0, samples.TWENTY]
        self.assertEqual(links.cells_of([4, 4, 4], row), row)
        self.assertEqual(links.values_of([4, 4, 4], row), row)
        self.assertEqual(links.total([0, 0, 0], row, 3), samples.TWENTY)


class UnequalNumbers(Raising):
    def test_both_numbers_are_told(self):
        for function in (signs.are_alike, signs.parting):
            for ours in (1, 2, 3, 15, 16):
                for theirs in (1, 2, 4, 16):
                    if ours != theirs:
                        with self.subTest(function.__name__, ours=ours, theirs=theirs):
                            error = self.raised(UnequalPairs, function, two(ours), two(theirs))
                            self.assertEqual((error.first, error.second), (ours, theirs))

    def test_both_pairs_are_checked_before(self):
        for function in (signs.are_alike, signs.parting):
            with self.subTest(function.__name__):
                self.check_pair_error("down", 2, function, ([0, 2], [2, 3]), ([0], [2]))
                self.check_pair_error("up", 1, function, ([0, 0], [2, 3]), ([0], [1]))
                self.check_pair_error(None, None, function, ([0, 0], [2, 3]), ([0], [2, 3]))


class TooManyPlaces(Raising):
    def test_more_than_four(self):
        for places in range(5, 17):
            for pair in (two(places), samples.plain(places)):
                with self.subTest(places=places):
                    error = self.raised(InvalidNumber, signs.alike_pairs, pair)
                    self.assertEqual(error.number, places)
                    self.assertIs(type(error.number), int)

    def test_the_pair_is_checked_before(self):
        down, up = two(5)
        self.check_pair_error("down", 5, signs.alike_pairs, (down[:4] + [5], up))
        self.check_pair_error("up", 5, signs.alike_pairs, (down, up[:4] + [5]))
        self.check_pair_error(None, None, signs.alike_pairs, two(17))


class WrongNumbers(Raising):
    def test_what_totals_rise_by(self):
        for thing in NO_NUMBERS + [NoWholeThing(), PAIR, samples]:
            with self.subTest(thing=type(thing)):
                for place in (1, 2, 3):
                    error = self.raised(InvalidNumber, covers.right_changes, PAIR, place, thing)
                    self.assertIs(error.number, thing)

    def test_numbers_of_places(self):
        for thing in NO_NUMBERS + [NoWholeThing(), PAIR, 0, 17, -1, samples.TWENTY, -samples.TWENTY]:
            for made in (order.Links.plain, order.Links.totals, order.Links.by_powers):
                with self.subTest(made=made.__name__, thing=type(thing)):
                    self.assertIs(self.raised(InvalidNumber, made, thing).number, thing)


def order_book(pair):
    """An order book of texts."""
    return joins.OrderBook(pair, lambda one, two: one + two, ["a"] * len(pair[0]))


def search_for_one(pair):
    """The search for 1 in a row of ones."""
    return search.reached(pair, [1] * len(pair[0]), 1)


class PairsThatAreNotRight(Raising):
    CALLED = [trees.tree_of, trees.depths, order.Links, lists.pair_number, order_book, search_for_one]

    def check_not_right(self, pair, first, second):
        for function in self.CALLED:
            error = self.raised(NotRight, function, pair)
            self.assertEqual((error.first, error.second), (first, second))
            self.assertEqual((type(error.first), type(error.second)), (int, int))

    def test_the_least_distance_and_of_these_the_least_second_place(self):
        self.check_not_right(([0, 1], [2, 3]), 2, 1)
        self.check_not_right(([0, 0], [3, 3]), 2, 1)
        self.check_not_right(([0, 0, 0, 0], [5, 5, 5, 5]), 2, 1)
        # Only the counts of 3 and 1, of 4 and 2 and of 4 and 1 are not 1.
        self.check_not_right(([0, 1, 2, 3], [3, 4, 5, 5]), 3, 1)
        self.check_not_right(([0, 1, 2, 3], [4, 5, 5, 5]), 4, 1)
        # The count of 4 and 1 is not 1 either, but 5 and 3 are nearer.
        self.check_not_right(([0, 1, 2, 3, 4], [4, 6, 5, 6, 6]), 5, 3)

    def test_all_pairs(self):
        found = 0
        for pair in samples.some_pairs() + samples.all_pairs(4):
            wrong = samples.first_wrong(pair)
            if wrong is not None:
                with self.subTest(pair=pair):
                    self.check_not_right(pair, *wrong)
                    found += 1
        self.assertGreater(found, 500)

    def test_right_pairs(self):
        for pair in samples.some_right_pairs():
            for function in self.CALLED:
                with self.subTest(function.__name__, pair=pair):
                    function(pair)

    def test_other_functions_take_pairs_that_are_not_right(self):
        for call in pair_calls(PAIR):
            if call[0] not in self.CALLED + [signs.are_alike, signs.parting, moves.moved, joins.OrderBook,
                                             search.reached, turned_book]:
                with self.subTest(call[0].__name__):
                    function, *arguments = call
                    function(*[ASKED if argument == [1] else argument for argument in arguments])


class TheFirstArgumentComesFirst(Raising):
    def test_pairs_before_totals(self):
        for function in (covers.right_totals, covers.values_by_totals):
            self.check_pair_error(None, None, function, None, None)
            self.check_pair_error("down", 2, function, ([0, 2], [1, 1]), [None])
            self.check_pair_error("up", 2, function, ([0, 0], [2, 2]), 9)

    def test_pairs_before_places_before_numbers(self):
        self.check_pair_error(None, None, covers.right_changes, None, None, None)
        self.check_pair_error("up", 1, covers.right_changes, ([0, 0], [1, 2]), 3, "1")
        self.assertEqual(self.raised(UnknownPlace, covers.right_changes, PAIR, 4, None).place, 4)
        self.assertIs(self.raised(UnknownPlace, covers.right_changes, PAIR, True, True).place, True)

    def test_pairs_before_moves(self):
        self.check_pair_error(None, None, moves.moved, None, None)
        self.check_pair_error("down", 1, moves.moved, ([1, 0], [2, 3]), (1, True))
        self.check_pair_error("up", 2, moves.moved, ([0, 0], [2, 2]), ())
        self.assertEqual(self.raised(NoMove, moves.moved, PAIR, ()).move, ())

    def test_wrong_links_before_pairs_that_are_not_right(self):
        # The counts of the nearest places are wrong, too, as far as the links tell.
        for function in PairsThatAreNotRight.CALLED:
            self.check_pair_error("down", 3, function, ([0, 0, 3], [4, 4, 4]))
            self.check_pair_error("up", 3, function, ([0, 0, 0], [4, 4, 3]))
            self.check_pair_error(None, None, function, ([0, 0, 0], [4, 4]))

    def test_by_name_in_another_order_too(self):
        with self.assertRaises(InvalidPair):
            covers.right_changes(more=None, place=9, pair=None)
        with self.assertRaises(UnknownPlace) as caught:
            covers.right_changes(more=None, place=9, pair=PAIR)
        self.assertEqual(caught.exception.place, 9)
        with self.assertRaises(InvalidPair):
            moves.moved(move=None, pair=None)
        with self.assertRaises(InvalidTree):
            trees.pair_of(tree=[])

    def test_tables_before_places(self):
        self.check_pair_error("down", 1, links.walk_down, [1], 9)
        self.check_pair_error("down", None, links.walk_down, None, None)
        self.check_pair_error("up", 1, links.walk_up, [1], 9)
        self.check_pair_error("up", None, links.walk_up, [], 1)

    def test_tables_before_values(self):
        self.check_pair_error("up", 2, links.cells_of, [2, 2], [1])
        self.check_pair_error("up", 2, links.values_of, [2, 2], [None, None])
        self.check_pair_error("down", 2, links.total, [0, 2], [None], 9)

    def test_values_before_places(self):
        self.assertIsNone(self.raised(InvalidValues, links.total, [0, 0], [1], 9).place)
        self.assertEqual(self.raised(InvalidValues, links.total, [0, 0], [1, None], None).place, 2)

    def test_pairs_before_places(self):
        self.check_pair_error(None, None, links.count, None, 9, 9)
        self.check_pair_error("up", 2, links.count, ([0, 0], [2, 2]), None, None)

    def test_the_pair_before_the_other(self):
        for function in (signs.are_alike, signs.parting):
            with self.subTest(function.__name__):
                self.check_pair_error("down", 2, function, ([0, 2], [2, 3]), ([1, 0], [2, 3]))
                self.check_pair_error("up", 2, function, ([0, 0], [2, 2]), None)
                self.check_pair_error(None, None, function, None, ([1, 0], [2, 3]))

    def test_by_name_in_another_order(self):
        with self.assertRaises(InvalidPair):
            links.total(place=9, cells=[None], down=[1])
        with self.assertRaises(InvalidPair) as caught:
            signs.parting(other=None, pair=([0], [1]))
        self.assertEqual((caught.exception.table, caught.exception.place), ("up", 1))
        with self.assertRaises(UnknownPlace) as unknown:
            links.count(second=0, first=4, pair=PAIR)
        self.assertEqual(unknown.exception.place, 4)


if __name__ == "__main__":
    unittest.main()
