"""Each of the eleven errors where it is due, over the whole program, and which one comes first."""

import inspect
import unittest

from linksums import books, covers, errors, joins, links, lists, mends, moves, order, prices, search, signs, text, trees
from linksums.errors import (InvalidNumber, InvalidPair, InvalidText, InvalidTree, InvalidValues, NoMove, NothingToUndo,
                             NotRight, NoWay, UnequalPairs, UnknownPlace)

# Things that are of no listed kind: each of them is wrong wherever an error is stated.
WRONG = [["no", "such"], {"thing": 1}]
NOT_RIGHT, RIGHT = ([0, 1, 0], [2, 3, 4]), ([0, 0, 2], [2, 4, 4])
DOWN, UP = RIGHT
ROW = [1, 2, 3]
WRONG_DOWN, WRONG_UP = ([0, 2, 0], [4, 4, 4]), ([0, 0, 0], [4, 4, 3])
LOOKUPS = [UnknownPlace, NoMove, NoWay, NothingToUndo]
ELEVEN = [thing for thing in vars(errors).values() if inspect.isclass(thing)]


def plus(one, two):
    return one + two


def book():
    return books.Book(NOT_RIGHT, ROW)


def grid():
    return books.Grid(RIGHT, ([0, 0], [2, 3]))


def first_pair(places, start):
    return next(lists.right_pairs(places, start=start))


def set_value(place, value):
    book()[place] = value


def add_values(values):
    kept = book()
    kept += values


# Each function that takes only a pair, one and other things, or a table.
OF_PAIRS = [links.counts, signs.signed_sums, signs.alike_pairs, covers.covers, trees.is_right, trees.turned,
            moves.forward_moves, moves.back_moves, order.Links.fits, joins.never_misses, joins.never_twice,
            joins.right_within, joins.clashes, joins.clashes_apart, joins.nearest_never_missing, mends.wrong_links,
            mends.mended, mends.mend_table, books.LateBook, text.format_pair]
OF_RIGHT_PAIRS = [trees.tree_of, trees.depths, order.Links, lists.pair_number]
OF_DOWN_TABLES = [trees.up_for, joins.limits, joins.count_never_missing]
OF_NUMBERS_OF_PLACES = [order.Links.plain, order.Links.totals, order.Links.by_powers, lists.count_right]

# Each function with further arguments, and for each of its arguments in turn: one that is wrong, the error
# that this raises, and its fields. All those behind are wrong, too, and all those ahead are right.
PAIR_ERROR = (WRONG, InvalidPair, {"table": None, "place": None})
DOWN_ERROR = (WRONG, InvalidPair, {"table": "down", "place": 1})
UP_ERROR = (WRONG, InvalidPair, {"table": "up", "place": 1})
PLACE_ERROR = (WRONG, UnknownPlace, {"place": WRONG})
ROW_ERROR = (WRONG, InvalidValues, {"place": None})
NUMBER_ERROR = (WRONG, InvalidNumber, {"number": WRONG})
CHECKS = [
    (links.walk_down, (DOWN, 1), [DOWN_ERROR, PLACE_ERROR]),
    (links.walk_up, (UP, 1), [UP_ERROR, PLACE_ERROR]),
    (links.count, (RIGHT, 1, 1), [PAIR_ERROR, PLACE_ERROR, PLACE_ERROR]),
    (links.cells_of, (UP, ROW), [UP_ERROR, ROW_ERROR]),
    (links.values_of, (UP, ROW), [UP_ERROR, ROW_ERROR]),
    (links.total, (DOWN, ROW, 1), [DOWN_ERROR, ROW_ERROR, PLACE_ERROR]),
    (signs.are_alike, (RIGHT, RIGHT), [PAIR_ERROR, PAIR_ERROR]),
    (signs.parting, (RIGHT, RIGHT), [PAIR_ERROR, PAIR_ERROR]),
    (covers.right_totals, (RIGHT, ROW), [PAIR_ERROR, ROW_ERROR]),
    (covers.values_by_totals, (RIGHT, ROW), [PAIR_ERROR, ROW_ERROR]),
    (covers.right_changes, (RIGHT, 1, 1), [PAIR_ERROR, PLACE_ERROR, NUMBER_ERROR]),
    (moves.moved, (RIGHT, (1, 2)), [PAIR_ERROR, (WRONG, NoMove, {"move": WRONG})]),
    (first_pair, (3, 0), [NUMBER_ERROR, NUMBER_ERROR]),
    (lists.numbered_pair, (3, 0), [NUMBER_ERROR, NUMBER_ERROR]),
    (lists.count_within, (3, 2, 2), [NUMBER_ERROR, NUMBER_ERROR, NUMBER_ERROR]),
    (lists.most_places, (2, 2), [NUMBER_ERROR, NUMBER_ERROR]),
    (lists.fullest_pair, (2, 2), [NUMBER_ERROR, NUMBER_ERROR]),
    (lists.count_by_looks, (3, 4, 5), [NUMBER_ERROR, NUMBER_ERROR, NUMBER_ERROR]),
    (joins.JoinBook, (RIGHT,), [PAIR_ERROR]),
    (joins.OrderBook, (RIGHT, plus, ROW), [PAIR_ERROR, None, ROW_ERROR]),
    (prices.price, (RIGHT, ROW, ROW), [PAIR_ERROR, ROW_ERROR, ROW_ERROR]),
    (prices.cheapest, (ROW, ROW), [(WRONG, InvalidValues, {"place": 1}), ROW_ERROR]),
    (prices.price_table, (ROW, ROW), [(WRONG, InvalidValues, {"place": 1}), ROW_ERROR]),
    (prices.is_price_table, (ROW, ROW, {}), [(WRONG, InvalidValues, {"place": 1}), ROW_ERROR]),
    (mends.is_mend_table, (RIGHT, {}), [PAIR_ERROR]),
    (books.Book, (RIGHT, ROW), [PAIR_ERROR, ROW_ERROR]),
    (lambda place, after: book()(place, after), (1, 0), [PLACE_ERROR, PLACE_ERROR]),
    (lambda place: book()[place], (1,), [PLACE_ERROR]),
    (lambda place, more: book().change(place, more), (1, 1), [PLACE_ERROR, NUMBER_ERROR]),
    (set_value, (1, 1), [PLACE_ERROR, NUMBER_ERROR]),
    (add_values, (ROW,), [ROW_ERROR]),
    (lambda pair: book().turn(pair), (RIGHT,), [PAIR_ERROR]),
    (lambda place, more: books.LateBook(RIGHT).raise_to(place, more), (1, 1), [PLACE_ERROR, NUMBER_ERROR]),
    (lambda place: books.LateBook(RIGHT).at(place), (1,), [PLACE_ERROR]),
    (books.Grid, (RIGHT, RIGHT), [PAIR_ERROR, PAIR_ERROR]),
    (lambda *told: grid().change(*told), (3, 2, 1), [PLACE_ERROR, PLACE_ERROR, NUMBER_ERROR]),
    (lambda *told: grid().total(*told), (3, 2), [PLACE_ERROR, PLACE_ERROR]),
    (lambda *told: joins.JoinBook(RIGHT, plus, 0).bring(*told), (1, 1), [PLACE_ERROR]),
    (lambda place: joins.JoinBook(RIGHT, plus, 0).total(place), (1,), [PLACE_ERROR]),
    (lambda *told: joins.OrderBook(RIGHT, plus, ROW).put(*told), (1, 1), [PLACE_ERROR]),
    (lambda place: joins.OrderBook(RIGHT, plus, ROW).total(place), (1,), [PLACE_ERROR]),
    (search.reached, (RIGHT, ROW, 1), [PAIR_ERROR, ROW_ERROR, NUMBER_ERROR]),
]
CHECKS += [(function, (RIGHT,), [PAIR_ERROR]) for function in OF_PAIRS + OF_RIGHT_PAIRS]
CHECKS += [(function, (DOWN,), [DOWN_ERROR]) for function in OF_DOWN_TABLES]
CHECKS += [(trees.down_for, (UP,), [UP_ERROR])]
CHECKS += [(function, (3,), [NUMBER_ERROR]) for function in OF_NUMBERS_OF_PLACES]
CHECKS += [(trees.pair_of, ((None, 1, None),), [(WRONG, InvalidTree, {})])]
CHECKS += [(text.parse_pair, ("0\n2",), [(WRONG, InvalidText, {"line": None})])]

# Errors that hang on more than one wrong argument: the call, the error and its fields.
OTHERS = [
    (lambda: signs.are_alike(RIGHT, ([0], [2])), UnequalPairs, {"first": 3, "second": 1}),
    (lambda: signs.parting(([0], [2]), RIGHT), UnequalPairs, {"first": 1, "second": 3}),
    (lambda: order.Links(RIGHT).leads_to(order.Links.plain(2)), UnequalPairs, {"first": 3, "second": 2}),
    (lambda: order.Links(RIGHT) | order.Links.plain(4), UnequalPairs, {"first": 3, "second": 4}),
    (lambda: book().turn(([0], [2])), UnequalPairs, {"first": 3, "second": 1}),
    (lambda: signs.alike_pairs(([0] * 5, [6] * 5)), InvalidNumber, {"number": 5}),
    (lambda: lists.numbered_pair(3, 5), InvalidNumber, {"number": 5}),
    (lambda: lists.fullest_pair(3, 3), InvalidNumber, {"number": 19}),
    (lambda: lists.count_by_looks(10, None, None), InvalidNumber, {"number": 10}),
    (lambda: moves.moved(RIGHT, (1, 3)), NoMove, {"move": (1, 3)}),
    (lambda: order.Links.plain(3).way_to(order.Links(RIGHT)), NoWay, {}),
    (lambda: book().undo(), NothingToUndo, {}),
    (lambda: trees.pair_of((None, 2, None)), InvalidTree, {}),
    (lambda: trees.pair_of(None), InvalidTree, {}),
    (lambda: text.parse_pair("0 1\n3 2"), InvalidText, {"line": 1}),
    (lambda: text.parse_pair("0 01\n3 2"), InvalidText, {"line": 0}),
    (lambda: prices.price(RIGHT, [1, 2, -1], None), InvalidValues, {"place": 3}),
    (lambda: search.reached(RIGHT, [1, -2, None], None), InvalidValues, {"place": 2}),
    (lambda: books.Book(WRONG_UP, None), InvalidPair, {"table": "up", "place": 3}),
    (lambda: books.Grid(RIGHT, WRONG_DOWN), InvalidPair, {"table": "down", "place": 2}),
    (lambda: search.reached(NOT_RIGHT, None, None), NotRight, {"first": 2, "second": 1}),
    (lambda: joins.OrderBook(NOT_RIGHT, None, None), NotRight, {"first": 2, "second": 1}),
]
OTHERS += [(lambda function=function: function(NOT_RIGHT), NotRight, {"first": 2, "second": 1})
           for function in OF_RIGHT_PAIRS]
OTHERS += [(lambda function=function, pair=pair: function(pair), InvalidPair, {"table": table, "place": place})
           for function in OF_PAIRS + OF_RIGHT_PAIRS
           for pair, table, place in [(WRONG_DOWN, "down", 2), (WRONG_UP, "up", 3)]]


class AllErrors(unittest.TestCase):
    def check(self, kind, fields, function, *arguments, **named):
        with self.assertRaises((ValueError, LookupError)) as caught:
            function(*arguments, **named)
        error = caught.exception
        self.assertIs(type(error), kind)
        self.assertEqual([one for one in ELEVEN if isinstance(error, one)], [kind])
        self.assertIs(isinstance(error, LookupError), kind in LOOKUPS)
        self.assertIs(isinstance(error, ValueError), kind not in LOOKUPS)
        self.assertEqual(vars(error), fields)
        for field, thing in fields.items():
            if thing is WRONG:
                self.assertIs(getattr(error, field), WRONG)

    def test_right_arguments_raise_nothing(self):
        for function, right, _ in CHECKS:
            if len(right) == len(inspect.signature(function).parameters):
                with self.subTest(function):
                    function(*right)

    def test_each_argument_and_the_first_one_ahead_of_the_others(self):
        for function, right, checks in CHECKS:
            for at, check in enumerate(checks):
                if check is not None:
                    wrong, kind, fields = check
                    many = len(inspect.signature(function).parameters)
                    behind = max(many if "told" not in str(inspect.signature(function)) else len(right), len(right))
                    with self.subTest(function, at=at):
                        self.check(kind, fields, function, *right[:at], *[wrong] * (behind - at))

    def test_by_name_in_the_order_of_the_parameters_too(self):
        for function, right, checks in CHECKS:
            names = list(inspect.signature(function).parameters)
            if "told" not in names:
                for at, check in enumerate(checks):
                    if check is not None:
                        wrong, kind, fields = check
                        told = [*right[:at], *[wrong] * (len(names) - at)]
                        named = dict(reversed(list(zip(names, told))))
                        with self.subTest(function, at=at):
                            self.check(kind, fields, function, **named)

    def test_the_others(self):
        for call, kind, fields in OTHERS:
            with self.subTest(kind.__name__, fields=fields):
                self.check(kind, fields, call)

    def test_each_of_the_eleven_is_raised(self):
        raised = {check[1] for _, _, checks in CHECKS for check in checks if check} | {kind for _, kind, _ in OTHERS}
        self.assertEqual(len(ELEVEN), 11)
        self.assertEqual(raised, set(ELEVEN))

    def test_pairs_that_are_not_right_are_no_error_elsewhere(self):
        for function in OF_PAIRS:
            with self.subTest(function.__name__):
                function(NOT_RIGHT)


if __name__ == "__main__":
    unittest.main()
