"""Books [36]: values, their cells [7] and the looks at them."""

import copy
import itertools
import random
import unittest

from linksums.books import Book
from linksums.covers import right_changes, right_totals, values_by_totals
from linksums.errors import InvalidNumber, InvalidPair, InvalidValues, NothingToUndo, UnequalPairs, UnknownPlace
from linksums.joins import JoinBook
from linksums.links import cells_of
from linksums.signs import alike_pairs
from tests import samples
from tests.wrong_things import NO_NUMBERS, NoWholeThing, Raising, no_two_tables, wrong_downs, wrong_ups

PAIR = ([0, 1, 0], [2, 3, 4])
POWERS = ([0, 0, 2, 0, 4], [2, 4, 4, 6, 6])


class KeptByTheWalks:
    """A book that is kept by the walks, as the document describes it."""

    def __init__(self, pair, values):
        self.pair, self.values = copy.deepcopy(pair), list(values)
        self.looks, self.past = 0, []

    def cells(self):
        found = [0] * len(self.values)
        for walk, value in zip(samples.walks_up(self.pair), self.values):
            for place in walk:
                found[place - 1] += value
        return found

    def walk(self, place):
        return set(samples.walks_down(self.pair)[place - 1]) if place else set()

    def told(self, place, after=0):
        cells, one, two = self.cells(), self.walk(place), self.walk(after)
        self.looks += len(one ^ two)
        return sum(cells[k - 1] for k in one) - sum(cells[k - 1] for k in two)

    def keep(self):
        self.past.append((self.pair, list(self.values)))

    def change(self, place, more):
        self.keep()
        self.add(place, more)

    def add(self, place, more):
        self.values[place - 1] += more
        self.looks += len(samples.walks_up(self.pair)[place - 1])

    def add_all(self, row):
        self.keep()
        for place, more in enumerate(row, 1):
            self.add(place, more)

    def turn(self, pair):
        self.keep()
        old = self.cells()
        self.pair = copy.deepcopy(pair)
        return [k for k, (one, two) in enumerate(zip(old, self.cells()), 1) if one != two]

    def undo(self):
        self.pair, self.values = self.past.pop()


class TheBook(unittest.TestCase):
    def test_known_book(self):
        book = Book(PAIR, [1, 2, 3])
        self.assertEqual((book.tables, book.numbers, book.cells, book.looks, len(book)),
                         (PAIR, [1, 2, 3], [1, 3, 6], 0, 3))
        self.assertEqual([book(1), book(2), book(3)], [1, 4, 6])
        self.assertEqual(book.looks, 4)
        self.assertEqual([book(3, 2), book(2, 3), book(2, 1), book(1, 1), book(3, 0)], [2, -2, 3, 0, 6])
        self.assertEqual(book.looks, 4 + 3 + 3 + 1 + 0 + 1)
        self.assertIsNone(book.change(1, 4))
        self.assertEqual((book.numbers, book.cells, book.looks), ([5, 2, 3], [5, 7, 10], 15))

    def test_at_first(self):
        for pair in samples.some_pairs():
            for values in samples.rows_of_numbers(len(pair[0])):
                book = Book(pair, values)
                with self.subTest(pair=pair, values=values):
                    self.assertEqual((book.tables, book.numbers, book.looks), (pair, values, 0))
                    self.assertEqual(book.cells, KeptByTheWalks(pair, values).cells())
                    self.assertEqual(len(book), len(values))
        self.assertIs(type(book.tables), tuple)
        self.assertEqual([type(book.numbers), type(book.cells), type(book.looks), type(len(book))],
                         [list, list, int, int])

    def test_it_looks_only_at_places_in_one_of_both_walks(self):
        for pair in samples.some_pairs():
            places = len(pair[0])
            values = [3 * k - 5 for k in range(places)]
            book, kept = Book(pair, values), KeptByTheWalks(pair, values)
            for place, after in itertools.product(range(1, places + 1), range(places + 1)):
                before, there = book.looks, kept.looks
                with self.subTest(pair=pair, place=place, after=after):
                    self.assertEqual(book(place, after), kept.told(place, after))
                    self.assertEqual(book.looks - before, kept.looks - there)

    def test_totals_held_against_the_counts(self):
        for pair in samples.some_pairs():
            for values in samples.rows_of_numbers(len(pair[0]))[-7:]:
                book = Book(pair, values)
                with self.subTest(pair=pair, values=values):
                    self.assertEqual(self.totals(book), samples.told_totals(pair, values))

    def test_totals_of_right_pairs_are_the_sums_up_to_each_place(self):
        for pair in samples.some_right_pairs():
            for values in samples.rows_of_numbers(len(pair[0]))[-7:]:
                book = Book(pair, values)
                sums = [0] + samples.up_to(values)
                with self.subTest(pair=pair, values=values):
                    self.assertEqual([0] + self.totals(book), sums)
                    for place, after in itertools.product((1, len(values) // 2 + 1, len(values)), (0, 1, len(values))):
                        self.assertEqual(book(place, after), sums[place] - sums[after])

    def test_right_answers_of_any_book(self):
        for pair in samples.some_pairs():
            for values in samples.rows_of_numbers(len(pair[0]))[-5:]:
                told = self.totals(Book(pair, values))
                with self.subTest(pair=pair, values=values):
                    self.assertEqual(right_totals(pair, told), samples.up_to(values))
                    self.assertEqual(values_by_totals(pair, told), values)

    def test_right_changes_of_any_book(self):
        for pair in samples.some_pairs():
            places = len(pair[0])
            for place in range(1, places + 1):
                book = Book(pair, list(range(places)))
                before = self.totals(book)
                book += right_changes(pair, place, 7)
                with self.subTest(pair=pair, place=place):
                    self.assertEqual([new - old for old, new in zip(before, self.totals(book))],
                                     [7 * (k >= place) for k in range(1, places + 1)])

    def test_pairs_alike_have_the_same_totals(self):
        for places in (1, 2, 3):
            for pair in samples.all_pairs(places):
                book, values = Book(pair, [4, -5, 6][:places]), [8, 0, -9][:places]
                others = [Book(other, book.numbers) for other in alike_pairs(pair)]
                for one in [book] + others:
                    one += values
                    one.change(places, 11)
                    one[1] = 2
                for other in others:
                    self.assertEqual(self.totals(other), self.totals(book))

    def test_moves_do_not_change_the_totals_and_change_one_cell(self):
        for pair in samples.some_pairs():
            values = [10 ** k for k in range(len(pair[0]))]
            for (_, y), new in samples.forward_from(pair):
                book = Book(pair, values)
                told = self.totals(book)
                with self.subTest(pair=pair, new=new):
                    self.assertEqual(book.turn(new), [y])
                    self.assertEqual(self.totals(book), told)

    def test_a_join_book_of_sums_tells_the_same(self):
        for pair in samples.some_pairs():
            values = list(range(5, 5 + len(pair[0])))
            joined = JoinBook(pair, lambda one, two: one + two, 0)
            for place, value in enumerate(values, 1):
                joined.bring(place, value)
            book = Book(pair, values)
            with self.subTest(pair=pair):
                self.assertEqual(joined.cells, book.cells)
                self.assertEqual([joined.total(k) for k in range(1, len(book) + 1)], self.totals(book))

    def test_numbers_of_twenty_one_digits_that_a_total_gave(self):
        book = Book(samples.plain(16), [samples.TWENTY] * 16)
        great = book(3)
        self.assertEqual(great, 3 * samples.TWENTY)
        self.assertEqual(len(str(great)), 21)
        book[2] = great
        book.change(3, book(12, 3))
        self.assertEqual(book.numbers[:4], [samples.TWENTY, great, 10 * samples.TWENTY, samples.TWENTY])
        book += [great] * 16
        self.assertEqual(book(3), (1 + 3 + 10 + 9) * samples.TWENTY)
        self.assertEqual(Book(POWERS, book.numbers[:5])(5), book(5))
        self.assertEqual(right_totals(PAIR, [great, 2 * great, 3 * great]), [great, great, 3 * great])

    def totals(self, book):
        return [book(place) for place in range(1, len(book) + 1)]


class RowsOfDeeds(unittest.TestCase):
    DEEDS = ["total", "between", "change", "set", "same", "add", "turn", "undo", "read"]

    def test_in_any_order(self):
        for pair in samples.all_pairs(2) + samples.all_pairs(3)[::4] + samples.large_pairs():
            some = random.Random(str(pair))
            values = [some.randint(-9, 9) for _ in pair[0]]
            book, kept = Book(pair, values), KeptByTheWalks(pair, values)
            for step in range(40):
                self.do(some.choice(self.DEEDS), book, kept, some)
                with self.subTest(pair=pair, step=step):
                    self.check_same(book, kept)

    def test_four_hundred_deeds_and_all_of_them_taken_back(self):
        pair, some = samples.by_powers(16), random.Random(400)
        values = [some.randint(-samples.TWENTY, samples.TWENTY) for _ in range(16)]
        book, kept = Book(pair, values), KeptByTheWalks(pair, values)
        for _ in range(400):
            self.do(some.choice(self.DEEDS[2:7]), book, kept, some)
        self.check_same(book, kept)
        looks = book.looks
        for step in range(400):
            self.assertIsNone(book.undo())
            kept.undo()
            if step % 20 == 0:
                self.check_same(book, kept)
        self.check_same(book, kept)
        self.assertEqual((book.tables, book.numbers, book.looks), (pair, values, looks))
        with self.assertRaises(NothingToUndo):
            book.undo()

    def do(self, deed, book, kept, some):
        """Does the same with a book and with one that is kept by the walks."""
        places = len(book)
        place, more = some.randint(1, places), some.choice([0, 1, -3, samples.NINETEEN])
        if deed == "total":
            self.assertEqual(book(place), kept.told(place))
        elif deed == "between":
            after = some.randint(0, places)
            self.assertEqual(book(place, after), kept.told(place, after))
        elif deed == "change":
            self.assertIsNone(book.change(place, more))
            kept.change(place, more)
        elif deed == "set":
            book[place] = more
            kept.change(place, more - kept.values[place - 1])
        elif deed == "same":
            book[place] = book[place]
            kept.change(place, 0)
        elif deed == "add":
            row = [some.randint(-2, 2) for _ in range(places)]
            before = book
            book += row
            self.assertIs(book, before)
            kept.add_all(row)
        elif deed == "turn":
            pair = some.choice([samples.mixed, samples.close])(places, some.randint(0, 50))
            self.assertEqual(book.turn(pair), kept.turn(pair))
        elif deed == "undo" and kept.past:
            self.assertIsNone(book.undo())
            kept.undo()
        elif deed == "undo":
            with self.assertRaises(NothingToUndo):
                book.undo()
        else:
            self.assertEqual(book[place], kept.values[place - 1])

    def check_same(self, book, kept):
        self.assertEqual(book.tables, kept.pair)
        self.assertEqual(book.numbers, kept.values)
        self.assertEqual(book.cells, kept.cells())
        self.assertEqual(book.looks, kept.looks)
        self.assertEqual(len(book), len(kept.values))


class Looks(unittest.TestCase):
    def test_of_changes(self):
        for pair in samples.some_pairs():
            for place, walk in enumerate(samples.walks_up(pair), 1):
                book = Book(pair, [0] * len(pair[0]))
                with self.subTest(pair=pair, place=place):
                    book.change(place, 5)
                    self.assertEqual(book.looks, len(walk))
                    book.change(place, 0)
                    self.assertEqual(book.looks, 2 * len(walk))
                    book[place] = 7
                    self.assertEqual(book.looks, 3 * len(walk))
                    book[place] = 7
                    self.assertEqual(book.looks, 4 * len(walk))
                    self.assertEqual(book[place], 7)
                    self.assertEqual(book.looks, 4 * len(walk))

    def test_of_changes_at_all_places(self):
        for pair in samples.some_pairs():
            book = Book(pair, [0] * len(pair[0]))
            each = sum(map(len, samples.walks_up(pair)))
            with self.subTest(pair=pair):
                book += [3] * len(book)
                self.assertEqual(book.looks, each)
                book += [0] * len(book)
                self.assertEqual(book.looks, 2 * each)

    def test_none_of_what_is_read_of_turning_and_of_taking_back(self):
        book = Book(POWERS, [1, 2, 3, 4, 5])
        book.change(1, 1)
        self.assertEqual(book.looks, 3)
        book.tables, book.numbers, book.cells, len(book), book[3]
        book.turn(samples.plain(5))
        book.turn(samples.plain(5))
        book.undo()
        book.undo()
        book.undo()
        self.assertEqual(book.looks, 3)
        book.change(1, 1)
        self.assertEqual(book.looks, 6)


class Turning(unittest.TestCase):
    def test_the_places_whose_cells_are_other_numbers(self):
        for places in (1, 2, 3):
            for pair, other in itertools.product(samples.all_pairs(places), repeat=2):
                for values in ([1, 2, 3][:places], [0, 0, 5][:places], [1, -1, 0][:places]):
                    book = Book(pair, values)
                    old, new = cells_of(pair[1], values), cells_of(other[1], values)
                    with self.subTest(pair=pair, other=other, values=values):
                        found = book.turn(other)
                        self.assertIs(type(found), list)
                        self.assertEqual(found, [k for k in range(1, places + 1) if old[k - 1] != new[k - 1]])
                        self.assertEqual((book.tables, book.numbers, book.cells), (other, values, new))

    def test_the_list_of_places_is_new(self):
        book = Book(PAIR, [1, 2, 3])
        found = book.turn(([0, 1, 2], [4, 4, 4]))
        found.append(9)
        book.undo()
        self.assertEqual(book.turn(([0, 1, 2], [4, 4, 4])), [2, 3])


class TakingBack(unittest.TestCase):
    def test_one_deed_after_the_other_from_the_last_one_on(self):
        book = Book(PAIR, [1, 2, 3])
        book.change(2, 5)
        book[1] = 10
        book += [1, 1, 1]
        book.turn(samples.plain(3))
        for numbers, tables in [([11, 8, 4], PAIR), ([10, 7, 3], PAIR), ([1, 7, 3], PAIR), ([1, 2, 3], PAIR)]:
            self.assertIsNone(book.undo())
            self.assertEqual((book.numbers, book.tables), (numbers, tables))
            self.assertEqual(book.cells, cells_of(tables[1], numbers))
        with self.assertRaises(NothingToUndo):
            book.undo()

    def test_deeds_that_changed_nothing(self):
        book = Book(PAIR, [1, 2, 3])
        book.change(2, 5)
        deeds = [lambda: book.change(1, 0), lambda: book.__setitem__(2, 7), lambda: book.__iadd__([0, 0, 0]),
                 lambda: book.turn(PAIR)]
        for deed in deeds:
            deed()
            book.undo()
            self.assertEqual((book.numbers, book.tables), ([1, 7, 3], PAIR))
        for deed in deeds:
            deed()
        for _ in deeds:
            book.undo()
            self.assertEqual((book.numbers, book.tables), ([1, 7, 3], PAIR))
        book.undo()
        self.assertEqual(book.numbers, [1, 2, 3])
        with self.assertRaises(NothingToUndo):
            book.undo()

    def test_a_deed_that_was_taken_back_is_not_taken_back_again(self):
        book = Book(PAIR, [1, 2, 3])
        book.change(1, 10)
        book.change(1, 100)
        book.undo()
        book.change(1, 1000)
        book.undo()
        self.assertEqual(book.numbers, [11, 2, 3])
        book.undo()
        self.assertEqual(book.numbers, [1, 2, 3])
        with self.assertRaises(NothingToUndo):
            book.undo()
        book.change(3, 1)
        book.undo()
        self.assertEqual(book.numbers, [1, 2, 3])

    def test_totals_and_what_is_read_are_no_deeds(self):
        book = Book(PAIR, [1, 2, 3])
        book.change(1, 10)
        book(3), book(3, 1), book[2], book.cells, book.numbers, book.tables, len(book), book.looks
        book.undo()
        self.assertEqual(book.numbers, [1, 2, 3])

    def test_a_turn_back_to_the_cells_of_the_old_pair(self):
        book = Book(PAIR, [1, 2, 3])
        book.turn(samples.plain(3))
        book.change(1, 10)
        book.undo()
        book.undo()
        self.assertEqual((book.tables, book.cells), (PAIR, [1, 3, 6]))
        book.change(1, 1)
        self.assertEqual(book.cells, [2, 4, 7])


class RefusedDeeds(Raising):
    def refused(self, book, kind, deed):
        """A deed is refused with an error of this class and changes nothing; the last one ahead is taken back."""
        before = (book.tables, book.numbers, book.cells, book.looks, len(book))
        error = self.raised(kind, deed)
        self.assertEqual((book.tables, book.numbers, book.cells, book.looks, len(book)), before)
        return error

    def test_places(self):
        book = Book(PAIR, [1, 2, 3])
        book.change(1, 5)
        for thing in NO_NUMBERS + [NoWholeThing(), 0, 4, -1, 17, samples.TWENTY, -samples.TWENTY, slice(1), PAIR]:
            with self.subTest(thing=type(thing)):
                for deed in (lambda: book(thing), lambda: book(thing, None), lambda: book.change(thing, None),
                             lambda: book[thing], lambda: book.__setitem__(thing, None)):
                    self.assertIs(self.refused(book, UnknownPlace, deed).place, thing)
        book.undo()
        self.assertEqual(book.numbers, [1, 2, 3])

    def test_places_to_begin_after(self):
        book = Book(PAIR, [1, 2, 3])
        for thing in NO_NUMBERS + [NoWholeThing(), 4, -1, 17, samples.TWENTY, -samples.TWENTY, PAIR]:
            with self.subTest(thing=type(thing)):
                self.assertIs(self.refused(book, UnknownPlace, lambda: book(1, thing)).place, thing)
                self.assertIs(self.refused(book, UnknownPlace, lambda: book(2, after=thing)).place, thing)
                # The place comes ahead of the one to begin after.
                self.assertEqual(self.refused(book, UnknownPlace, lambda: book(0, thing)).place, 0)
                self.assertEqual(self.refused(book, UnknownPlace, lambda: book(after=thing, place=4)).place, 4)
        self.assertEqual(book(2, 0), 4)

    def test_numbers(self):
        book = Book(PAIR, [1, 2, 3])
        book.change(1, 5)
        for thing in NO_NUMBERS + [NoWholeThing()]:
            with self.subTest(thing=type(thing)):
                for deed in (lambda: book.change(2, thing), lambda: book.__setitem__(2, thing)):
                    self.assertIs(self.refused(book, InvalidNumber, deed).number, thing)
        book.undo()
        self.assertEqual(book.numbers, [1, 2, 3])
        with self.assertRaises(NothingToUndo):
            book.undo()

    def test_rows_that_are_added(self):
        for row, place in [(None, None), (3, None), ("abc", None), ((1, 1, 1), None), ({1: 1, 2: 1, 3: 1}, None),
                           ([], None), ([1, 1], None), ([1] * 4, None), ([None] * 4, None), (range(3), None),
                           (NoWholeThing(), None), ([True, 1, 1], 1), ([1, None, 1], 2), ([1, 1, "1"], 3),
                           ([1, 1.0, None], 2), ([1, 1, NoWholeThing()], 3)]:
            book = Book(PAIR, [1, 2, 3])
            book.change(1, 5)
            with self.subTest(row=type(row)):
                error = self.refused(book, InvalidValues, lambda: book.__iadd__(row))
                self.assertEqual(error.place, place)
                self.assertIsNot(type(error.place), bool)
                book.undo()
                self.assertEqual(book.numbers, [1, 2, 3])
                with self.assertRaises(NothingToUndo):
                    book.undo()

    def test_a_refused_sign_leaves_the_name_as_it_was(self):
        book = kept = Book(PAIR, [1, 2, 3])
        with self.assertRaises(InvalidValues):
            book += [1, 2, True]
        self.assertIs(book, kept)
        self.assertEqual(book.numbers, [1, 2, 3])

    def test_turns(self):
        book = Book(PAIR, [1, 2, 3])
        book.change(1, 5)
        for thing in no_two_tables():
            self.refused(book, InvalidPair, lambda: book.turn(thing))
            self.check_pair_error(None, None, book.turn, thing)
        for down, place in wrong_downs():
            self.check_pair_error("down", place, book.turn, (down, [len(down) + 1] * len(down)))
        for up, place in wrong_ups():
            self.check_pair_error("up", place, book.turn, ([0] * len(up), up))
        for places in (1, 2, 4, 16):
            error = self.refused(book, UnequalPairs, lambda: book.turn(samples.plain(places)))
            self.assertEqual((error.first, error.second), (3, places))
        book.undo()
        self.assertEqual(book.numbers, [1, 2, 3])
        self.raised(NothingToUndo, book.undo)

    def test_nothing_to_undo(self):
        book = Book(PAIR, [1, 2, 3])
        for _ in range(2):
            self.refused(book, NothingToUndo, book.undo)

    def test_new_books(self):
        for row, place in [(None, None), ((1, 2, 3), None), ([1, 2], None), ([1, 2, 3, 4], None), ([1, 2, True], 3),
                           (["1", 2, None], 1)]:
            with self.subTest(row=row):
                self.assertEqual(self.raised(InvalidValues, Book, PAIR, row).place, place)
        # The pair comes first.
        self.check_pair_error("up", 1, Book, ([0, 0], [1, 3]), None)
        self.check_pair_error(None, None, lambda: Book(values=None, pair=None))

    def test_a_book_is_not_gone_through(self):
        with self.assertRaises(TypeError):
            list(Book(PAIR, [1, 2, 3]))


class NewThings(unittest.TestCase):
    def test_what_is_read_is_new(self):
        book = Book(POWERS, [1, 2, 3, 4, 5])
        for _ in range(2):
            for found in (*book.tables, book.numbers, book.cells):
                found[0] = "changed"
                found.append(9)
            self.assertEqual((book.tables, book.numbers, book.cells), (POWERS, [1, 2, 3, 4, 5], [1, 3, 3, 10, 5]))
        found = [*book.tables, book.numbers, book.cells, *book.tables, book.numbers, book.cells]
        self.assertEqual(len({id(one) for one in found}), len(found))

    def test_what_is_read_stays_as_it_was(self):
        book = Book(POWERS, [1, 2, 3, 4, 5])
        found = copy.deepcopy((book.tables, book.numbers, book.cells))
        kept = (book.tables, book.numbers, book.cells)
        book.change(1, 5)
        book += [1] * 5
        book.turn(samples.plain(5))
        book[2] = 9
        book.undo()
        self.assertEqual(kept, found)

    def test_what_is_passed_in_stays_as_it_was_and_may_change_later(self):
        pair, values, row, other = copy.deepcopy(POWERS), [1, 2, 3, 4, 5], [5, 4, 3, 2, 1], samples.plain(5)
        book = Book(pair, values)
        book += row
        book.turn(other)
        self.assertEqual((pair, values, row, other), (POWERS, [1, 2, 3, 4, 5], [5, 4, 3, 2, 1], samples.plain(5)))
        for found in (*pair, values, row, *other):
            found[0] = "changed"
            found.clear()
        self.assertEqual((book.tables, book.numbers, book.cells), (samples.plain(5), [6] * 5, [6] * 5))
        book.undo()
        self.assertEqual((book.tables, book.cells), (POWERS, [6, 12, 6, 24, 6]))
        book.undo()
        self.assertEqual((book.numbers, book.cells), ([1, 2, 3, 4, 5], [1, 3, 3, 10, 5]))

    def test_two_books_do_not_touch_each_other(self):
        values = [1, 2, 3]
        one, two = Book(PAIR, values), Book(PAIR, values)
        one.change(1, 5)
        one.turn(samples.plain(3))
        one(3)
        self.assertEqual((two.tables, two.numbers, two.cells, two.looks), (PAIR, values, [1, 3, 6], 0))
        with self.assertRaises(NothingToUndo):
            two.undo()

    def test_by_name_and_by_position(self):
        one, two = Book(values=[1, 2, 3], pair=PAIR), Book(PAIR, [1, 2, 3])
        for book, first, between in ((one, one(place=3), one(after=1, place=2)), (two, two(3), two(2, 1))):
            self.assertEqual((first, between, book.looks), (6, 3, 2))
        self.assertEqual(one(3, after=2), two(3, 2))
        self.assertIsNone(one.change(more=4, place=2))
        self.assertIsNone(two.change(2, 4))
        self.assertEqual(one.turn(pair=samples.plain(3)), two.turn(samples.plain(3)))
        self.assertEqual((one.tables, one.numbers, one.cells), (two.tables, two.numbers, two.cells))
        self.assertEqual(one.looks, two.looks)


if __name__ == "__main__":
    unittest.main()
