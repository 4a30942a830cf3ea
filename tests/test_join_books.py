"""Books that join [22] and books that join in order [25], [36]."""

import copy
import itertools
import random
import unittest

from linksums.errors import InvalidPair, InvalidValues, NotRight, UnknownPlace
from linksums.joins import JoinBook, OrderBook
from linksums.trees import tree_of
from tests import samples
from tests.wrong_things import NO_NUMBERS, NoWholeThing, Raising, wrong_downs, wrong_ups

PAIR = ([0, 1, 0], [2, 3, 4])
RIGHT = ([0, 0, 2], [2, 4, 4])
POWERS = ([0, 0, 2, 0, 4], [2, 4, 4, 6, 6])


def plus(one, two):
    return one + two


def united(one, two):
    """Two sets in one, as sorted tuples."""
    return tuple(sorted({*one, *two}))


# Each operation with its nought and some values.
OPERATIONS = [
    (max, 0, [0, 3, 8, 5]),
    (min, samples.TWENTY, [7, 2, 9]),
    (plus, 0, [1, -4, 30, samples.TWENTY]),
    (lambda one, two: one ^ two, 0, [1, 6, 12]),
    (united, (), [(1,), (2, 5), (), (1, 5)]),
    (lambda one, two: one * two, 1, [2, -1, 3]),
]


class KeptByTheWalks:
    """A join book that is kept by the walks, as the document describes it."""

    def __init__(self, pair, join, nought):
        self.downs, self.ups = samples.walks_down(pair), samples.walks_up(pair)
        self.join, self.nought = join, nought
        self.cells = [nought] * len(self.downs)

    def bring(self, place, value):
        for reached in self.ups[place - 1]:
            self.cells[reached - 1] = self.join(self.cells[reached - 1], value)

    def total(self, place):
        found = self.nought
        for reached in self.downs[place - 1]:
            found = self.join(found, self.cells[reached - 1])
        return found


class Thing:
    """A value that equals no other thing, and knows what it was joined from."""

    def __init__(self, *parts):
        self.parts = parts


def leaves(thing):
    """What a thing was joined from, in order."""
    return [leaf for part in thing.parts for leaf in leaves(part)] if thing.parts else [thing]


class JoinBooks(unittest.TestCase):
    def test_known_book(self):
        book = JoinBook(PAIR, max, 0)
        self.assertEqual(book.cells, [0, 0, 0])
        self.assertIsNone(book.bring(1, 4))
        self.assertEqual(book.cells, [4, 4, 4])
        book.bring(2, 6)
        self.assertEqual((book.cells, [book.total(k) for k in (1, 2, 3)]), ([4, 6, 6], [4, 6, 6]))
        book = JoinBook(PAIR, plus, 0)
        book.bring(1, 4)
        # The pair counts the first place twice in the total of the second one.
        self.assertEqual([book.total(k) for k in (1, 2, 3)], [4, 8, 4])

    def test_held_against_cells_and_walks(self):
        for join, nought, values in OPERATIONS:
            for pair in samples.all_pairs(3) + samples.large_pairs():
                book, kept = JoinBook(pair, join, nought), KeptByTheWalks(pair, join, nought)
                self.check_same(book, kept)
                some = random.Random(len(pair[0]))
                for _ in range(4):
                    place, value = some.randint(1, len(pair[0])), some.choice(values)
                    self.assertIsNone(book.bring(place, value))
                    kept.bring(place, value)
                    self.check_same(book, kept)

    def test_the_totals_of_pairs_that_are_right_for_the_operation(self):
        for pair in samples.some_right_pairs():
            for join, nought, values in OPERATIONS:
                book = JoinBook(pair, join, nought)
                brought = [(k, value) for k, value in zip(range(1, len(pair[0]) + 1), itertools.cycle(values))]
                for place, value in reversed(brought):
                    book.bring(place, value)
                wanted = nought
                for place, value in brought:
                    wanted = join(wanted, value)
                    with self.subTest(pair=pair, place=place):
                        self.assertEqual(book.total(place), wanted)

    def test_a_book_that_unites_is_right_if_the_pair_never_misses(self):
        pair = ([0, 1, 1, 2], [2, 3, 4, 5])
        book = JoinBook(pair, united, ())
        for place, value in [(3, (3,)), (1, (1,)), (4, (4,)), (2, (2,)), (1, (9,))]:
            book.bring(place, value)
        self.assertEqual([book.total(k) for k in (1, 2, 3, 4)], [(1, 9), (1, 2, 9), (1, 2, 3, 9), (1, 2, 3, 4, 9)])

    def test_join_is_called_only_with_what_was_brought_the_nought_and_what_it_has_given(self):
        for pair in samples.all_pairs(2) + samples.all_pairs(3)[::5] + [POWERS, samples.close(16, 1)]:
            known = [Thing()]

            def join(one, two):
                self.assertIn(id(one), [id(thing) for thing in known])
                self.assertIn(id(two), [id(thing) for thing in known])
                known.append(Thing(one, two))
                return known[-1]

            book = JoinBook(pair, join, known[0])
            brought = []
            for place in [1, len(pair[0]), 1]:
                brought.append(Thing())
                known.append(brought[-1])
                book.bring(place, brought[-1])
                for k in range(1, len(pair[0]) + 1):
                    # All that is joined is the nought and what was brought, the things themselves.
                    self.assertLessEqual({id(leaf) for leaf in leaves(book.total(k))},
                                         {id(thing) for thing in known[:1] + brought})

    def test_what_is_in_a_total(self):
        for pair in samples.all_pairs(3) + [POWERS, samples.close(7, 2), samples.mixed(7, 2)]:
            places = range(1, len(pair[0]) + 1)
            nought, brought = Thing(), [Thing() for _ in places]
            book = JoinBook(pair, Thing, nought)
            for place in places:
                book.bring(place, brought[place - 1])
            rows = samples.defined_counts(pair)
            for place in places:
                inside = [id(leaf) for leaf in leaves(book.total(place))]
                with self.subTest(pair=pair, place=place):
                    self.assertEqual([inside.count(id(thing)) for thing in brought], rows[place - 1])

    def test_the_nought_is_passed_on_as_it_is(self):
        for nought in (None, [], [[]], {}, Thing(), True, "0"):
            book = JoinBook(RIGHT, plus, nought)
            self.assertTrue(all(cell is nought for cell in book.cells))
            self.assertEqual(len(book.cells), 3)

    def test_brought_values_are_not_changed(self):
        values = [[1], [2], [3]]
        nought = []
        book = JoinBook(POWERS, plus, nought)
        for place, value in zip((5, 1, 3), values):
            book.bring(place, value)
        self.assertEqual((values, nought), ([[1], [2], [3]], []))
        # A list may be joined where the order does not matter, as here: all lists have one kind of thing.
        self.assertEqual(sorted(book.total(5)), [1, 2, 3])

    def test_the_list_of_the_cells_is_new(self):
        book = JoinBook(POWERS, plus, 0)
        book.bring(1, 3)
        for _ in range(2):
            cells = book.cells
            self.assertEqual(cells, [3, 3, 0, 3, 0])
            self.assertIsNot(cells, book.cells)
            cells[0] = "changed"
            cells.append(4)
        self.assertEqual([book.total(k) for k in range(1, 6)], [3] * 5)

    def test_what_is_passed_in_may_change_later_and_stays_as_it_was(self):
        pair = copy.deepcopy(POWERS)
        book = JoinBook(pair, plus, 0)
        book.bring(1, 3)
        book.total(3)
        self.assertEqual(pair, POWERS)
        pair[0][2] = 0
        pair[1].clear()
        book.bring(3, 5)
        self.assertEqual((book.cells, book.total(3)), ([3, 3, 5, 8, 0], 8))

    def test_two_books_do_not_touch_each_other(self):
        one, two = JoinBook(POWERS, plus, 0), JoinBook(POWERS, plus, 0)
        one.bring(2, 7)
        self.assertEqual((one.cells, two.cells), ([0, 7, 0, 7, 0], [0] * 5))

    def test_by_name(self):
        book = JoinBook(nought=0, join=plus, pair=POWERS)
        self.assertIsNone(book.bring(value=4, place=2))
        self.assertIsNone(book.bring(1, value=1))
        self.assertEqual((book.cells, book.total(place=3)), ([1, 5, 0, 5, 0], 5))

    def check_same(self, book, kept):
        places = range(1, len(kept.cells) + 1)
        self.assertEqual(book.cells, kept.cells)
        self.assertIs(type(book.cells), list)
        self.assertEqual([book.total(k) for k in places], [kept.total(k) for k in places])


class OrderBooks(unittest.TestCase):
    def test_known_book(self):
        book = OrderBook(POWERS, plus, ["a", "b", "c", "d", "e"])
        self.assertEqual(book.cells, ["a", "ab", "c", "abcd", "e"])
        self.assertEqual([book.total(k) for k in range(1, 6)], ["a", "ab", "abc", "abcd", "abcde"])
        self.assertEqual(book.put(2, "xy"), "b")
        self.assertEqual(book.cells, ["a", "axy", "c", "axycd", "e"])
        self.assertEqual([book.total(k) for k in range(1, 6)], ["a", "axy", "axyc", "axycd", "axycde"])

    def test_texts_and_lists(self):
        for pair in samples.some_right_pairs():
            places = len(pair[0])
            self.check_kept(pair, [f"({k})" for k in range(places)], ["", "new", "x"])
            self.check_kept(pair, [[k, -k] for k in range(places)], [[], [7], [8, 9]])

    def check_kept(self, pair, row, others):
        """Holds a book against the row itself, at first and after each of some puts."""
        book, row = OrderBook(pair, plus, row), list(row)
        self.check_book(book, pair, row)
        for place, value in zip([1, len(row), (len(row) + 1) // 2], others):
            self.assertIs(book.put(place, value), row[place - 1])
            row[place - 1] = value
            self.check_book(book, pair, row)

    def check_book(self, book, pair, row):
        first = {root: least for root, (least, _, _) in samples.subtrees(tree_of(pair), 1, len(row)).items()}
        with self.subTest(pair=pair, row=row):
            self.assertIs(type(book.cells), list)
            for place in range(1, len(row) + 1):
                self.assertEqual(book.cells[place - 1], self.together(row[first[place] - 1:place]))
                self.assertEqual(book.total(place), self.together(row[:place]))

    def together(self, parts):
        found = parts[0]
        for part in parts[1:]:
            found = found + part
        return found

    def test_join_gets_the_lesser_places_first(self):
        for pair in samples.some_right_pairs():
            things = [Thing() for _ in pair[0]]
            book = OrderBook(pair, Thing, things)
            for place in range(1, len(things) + 1):
                self.assertEqual([id(leaf) for leaf in leaves(book.total(place))],
                                 [id(thing) for thing in things[:place]])

    def test_a_cell_is_joined_of_those_whose_up_link_is_its_place_and_its_own_value(self):
        calls = []

        def join(one, two):
            calls.append((one, two))
            return one + two

        book = OrderBook(samples.totals(3), join, ["a", "b", "c"])
        self.assertEqual(calls, [("a", "b"), ("ab", "c")])
        calls.clear()
        book.put(2, "x")
        self.assertEqual(calls, [("a", "x"), ("ax", "c")])
        calls.clear()
        self.assertEqual(book.total(3), "axc")
        self.assertEqual(calls, [])
        book = OrderBook(([0, 1, 2, 0], [4, 4, 4, 5]), join, ["a", "b", "c", "d"])
        self.assertEqual(calls, [("a", "b"), ("ab", "c"), ("abc", "d")])

    def test_the_walk_up_is_joined_anew_also_for_the_very_value(self):
        for pair in samples.some_right_pairs():
            made = []

            def join(one, two):
                made.append(Thing(one, two))
                return made[-1]

            things = [Thing() for _ in pair[0]]
            book = OrderBook(pair, join, things)
            for place in range(1, len(things) + 1):
                before = book.cells
                made.clear()
                self.assertIs(book.put(place, things[place - 1]), things[place - 1])
                walk = samples.walks_up(pair)[place - 1]
                for k, (old, new) in enumerate(zip(before, book.cells), 1):
                    if k not in walk:
                        self.assertIs(new, old)
                    elif pair[0][k - 1] == k - 1:
                        # The cell of a place without a left subtree is the value itself.
                        self.assertIs(new, things[k - 1])
                    else:
                        self.assertIn(id(new), [id(thing) for thing in made])

    def test_values_of_any_kind(self):
        for value in [None, True, False, 0, "", [], {}, (), 1.5, object(), OrderBook, plus, NoWholeThing()]:
            book = OrderBook(samples.plain(3), plus, [value, value, "c"])
            with self.subTest(value=type(value)):
                self.assertIs(book.cells[0], value)
                self.assertIs(book.total(1), value)
                self.assertIs(book.put(2, None), value)
                self.assertIsNone(book.cells[1])
                self.assertIsNone(book.put(2, value))
                self.assertIs(book.cells[1], value)
        together = OrderBook(samples.totals(3), lambda one, two: (one, two), [None, None, None])
        self.assertEqual(together.cells, [None, (None, None), ((None, None), None)])
        self.assertIsNone(together.put(1, 5))
        self.assertEqual(together.total(2), (5, None))

    def test_values_are_not_changed(self):
        row = [[1], [2], [3]]
        book = OrderBook(RIGHT, plus, row)
        book.put(1, [5])
        book.total(3)
        self.assertEqual(row, [[1], [2], [3]])

    def test_the_list_of_the_cells_is_new(self):
        book = OrderBook(RIGHT, plus, ["a", "b", "c"])
        for _ in range(2):
            cells = book.cells
            self.assertEqual(cells, ["a", "ab", "c"])
            self.assertIsNot(cells, book.cells)
            cells[1] = "changed"
            cells.append("d")
        self.assertEqual(book.total(3), "abc")

    def test_what_is_passed_in_may_change_later_and_stays_as_it_was(self):
        pair, row = copy.deepcopy(RIGHT), ["a", "b", "c"]
        book = OrderBook(pair, plus, row)
        book.put(1, "x")
        self.assertEqual((pair, row), (RIGHT, ["a", "b", "c"]))
        pair[0][2] = 0
        pair[1][0] = 4
        row[1] = "changed"
        row.clear()
        book.put(3, "z")
        self.assertEqual(book.put(1, "y"), "x")
        self.assertEqual((book.cells, book.total(3)), (["y", "yb", "z"], "ybz"))

    def test_two_books_do_not_touch_each_other(self):
        row = ["a", "b", "c"]
        one, two = OrderBook(RIGHT, plus, row), OrderBook(RIGHT, plus, row)
        one.put(1, "x")
        self.assertEqual((one.cells, two.cells), (["x", "xb", "c"], ["a", "ab", "c"]))

    def test_by_name(self):
        book = OrderBook(row=["a", "b", "c"], join=plus, pair=RIGHT)
        self.assertEqual(book.put(value="x", place=1), "a")
        self.assertEqual(book.put(3, value="z"), "c")
        self.assertEqual(book.total(place=3), "xbz")


class WrongArguments(Raising):
    def test_places(self):
        for thing in NO_NUMBERS + [NoWholeThing(), 0, 4, -1, 17, samples.TWENTY, -samples.TWENTY, PAIR]:
            join_book, order_book = JoinBook(PAIR, plus, 0), OrderBook(RIGHT, plus, ["a", "b", "c"])
            join_book.bring(1, 3)
            with self.subTest(thing=type(thing)):
                for call in (lambda: join_book.bring(thing, 1), lambda: join_book.total(thing),
                             lambda: order_book.put(thing, "x"), lambda: order_book.total(thing)):
                    self.assertIs(self.raised(UnknownPlace, call).place, thing)
                self.assertEqual(join_book.cells, [3, 3, 3])
                self.assertEqual((order_book.cells, order_book.total(3)), (["a", "ab", "c"], "abc"))

    def test_rows(self):
        for row in [None, True, 3, "abc", ("a", "b", "c"), {1: 1, 2: 2, 3: 3}, {1, 2, 3}, range(3), object(),
                    NoWholeThing(), [], ["a"], ["a", "b"], ["a"] * 4, ["a"] * 17]:
            with self.subTest(row=type(row)):
                self.assertIsNone(self.raised(InvalidValues, OrderBook, RIGHT, plus, row).place)

    def test_pairs(self):
        for down, place in wrong_downs():
            pair = (down, [len(down) + 1] * len(down))
            self.check_pair_error("down", place, JoinBook, pair, plus, 0)
            self.check_pair_error("down", place, OrderBook, pair, plus, None)
        for up, place in wrong_ups():
            self.check_pair_error("up", place, JoinBook, ([0] * len(up), up), plus, 0)
            self.check_pair_error("up", place, OrderBook, ([0] * len(up), up), plus, None)

    def test_pairs_that_are_not_right(self):
        for pair in samples.some_pairs():
            wrong = samples.first_wrong(pair)
            if wrong is not None:
                # The row is wrong, too, but the pair comes first.
                error = self.raised(NotRight, OrderBook, pair, plus, None)
                self.assertEqual((error.first, error.second), wrong)
                self.assertEqual(len(JoinBook(pair, plus, 0).cells), len(pair[0]))

    def test_the_pair_comes_first_by_name_too(self):
        with self.assertRaises(InvalidPair):
            OrderBook(row=None, join=plus, pair=None)
        with self.assertRaises(NotRight):
            OrderBook(row=None, join=plus, pair=PAIR)


if __name__ == "__main__":
    unittest.main()
