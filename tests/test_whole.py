"""What the document promises over the whole program [4], [8], [9], [16], [18], [20]: all modules together."""

import itertools
import math
import unittest

from linksums.books import Book, Grid, LateBook
from linksums.covers import covers, right_changes, right_totals, values_by_totals
from linksums.joins import (JoinBook, OrderBook, clashes, count_never_missing, limits, nearest_never_missing,
                            never_misses, never_twice, right_within)
from linksums.links import cells_of, count, counts, total, values_of, walk_down, walk_up
from linksums.lists import count_right, count_within, most_places, numbered_pair, pair_number, right_pairs
from linksums.mends import is_mend_table, mend_table, mended, wrong_links
from linksums.moves import back_moves, forward_moves, moved
from linksums.order import Links
from linksums.prices import cheapest, is_price_table, price, price_table
from linksums.search import reached
from linksums.signs import alike_pairs, are_alike, parting, signed_sums
from linksums.text import format_pair, parse_pair
from linksums.trees import depths, down_for, is_right, pair_of, tree_of, turned, up_for
from tests import samples


def plus(one, two):
    return one + two


def pairs_of_all_kinds():
    """All pairs for 1 to 4 places, and large ones, right and not."""
    return samples.some_pairs() + samples.all_pairs(4) + samples.some_right_pairs()


def totals_of(book):
    return [book(place) for place in range(1, len(book) + 1)]


def ones_below(places):
    """The counts, and the covers, of a right pair."""
    return [[1] * place + [0] * (places - place) for place in range(1, places + 1)]


def walks_tell(pair):
    """Whether a pair is right as the last sentence of [11] says."""
    down, up = pair
    for i in range(2, len(down) + 1):
        walk, link = walk_down(down, i - 1), down[i - 1]
        if link and link not in walk:
            return False
        ahead = walk[:walk.index(link)] if link else walk
        if sorted(ahead) != [k for k in range(1, len(down) + 1) if up[k - 1] == i]:
            return False
    return True


class RightPairs(unittest.TestCase):
    """All that tells whether a pair is right tells the same [4], [9]."""

    def test_all_ways_to_tell_it(self):
        listed = {places: [format_pair(pair) for pair in right_pairs(places)] for places in range(1, 9)}
        for pair in pairs_of_all_kinds():
            down, up = pair
            places = len(down)
            wanted = set(samples.counts_that_should_be_1(pair)) == {1}
            plain = [(i, i - 1, 1) for i in range(2, places + 1)]
            told = {
                "is_right": is_right(pair),
                "fits": Links.fits(pair),
                "counts": counts(pair) == ones_below(places),
                "covers": covers(pair) == ones_below(places),
                "signed sums": signed_sums(pair) == plain,
                "alike": are_alike(pair, Links.plain(places).pair),
                "parting": parting(pair, Links.totals(places).pair) is None,
                "up_for": up_for(down) == up,
                "down_for": down_for(up) == down,
                "walks": walks_tell(pair),
                "wrong links": wrong_links(pair) == 0,
                "mended": mended(pair) == pair,
                "misses": never_misses(pair) and never_twice(pair),
                "within": right_within(pair) == pair,
                "listed": places > 8 or format_pair(pair) in listed[places],
            }
            if places > 8:
                del told["listed"]
            with self.subTest(pair=pair):
                self.assertEqual(told, {way: wanted for way in told})

    def test_totals_are_right_for_all_values(self):
        for pair in samples.some_right_pairs():
            places = range(1, len(pair[0]) + 1)
            for values in samples.rows_of_numbers(len(pair[0]))[-6:]:
                sums, cells = samples.up_to(values), cells_of(pair[1], values)
                joined, late = JoinBook(pair, plus, 0), LateBook(pair)
                for place, value in zip(places, values):
                    joined.bring(place, value)
                    late.raise_to(place, value)
                with self.subTest(pair=pair, values=values):
                    self.assertEqual([total(pair[0], cells, place) for place in places], sums)
                    self.assertEqual(totals_of(Book(pair, values)), sums)
                    self.assertEqual([joined.total(place) for place in places], sums)
                    self.assertEqual([OrderBook(pair, plus, values).total(place) for place in places], sums)
                    self.assertEqual([late.at(place) for place in places], samples.up_to(values[::-1])[::-1])
                    self.assertEqual(right_totals(pair, sums), sums)
                    self.assertEqual(values_by_totals(pair, sums), values)
                    self.assertEqual(values_of(pair[1], cells), values)

    def test_of_others_some_total_is_not_right_for_some_values(self):
        for pair in pairs_of_all_kinds():
            if not is_right(pair):
                first, second = parting(pair, Links.plain(len(pair[0])).pair)
                values = [int(place == second) for place in range(1, len(pair[0]) + 1)]
                with self.subTest(pair=pair):
                    self.assertEqual(Book(pair, values)(first), count(pair, first, second))
                    self.assertNotEqual(Book(pair, values)(first), 1)
                    # There either the count is 0 and the cover 2, or the count 2 and the cover 0.
                    self.assertIn((count(pair, first, second), covers(pair)[first - 1][second - 1]), [(0, 2), (2, 0)])

    def test_each_way_to_a_right_pair_leads_to_it(self):
        for pair in samples.some_right_pairs():
            places = len(pair[0])
            with self.subTest(pair=pair):
                self.assertEqual(pair_of(tree_of(pair)), pair)
                self.assertEqual(numbered_pair(places, pair_number(pair)), pair)
                self.assertEqual(parse_pair(format_pair(pair)), pair)
                self.assertEqual((down_for(pair[1]), up_for(pair[0])), pair)
                self.assertEqual(turned(turned(pair)), pair)
                self.assertEqual(Links(pair).pair, pair)
                self.assertEqual(Book(pair, [0] * places).tables, pair)
                self.assertEqual(limits(pair[0]), pair[1])
                self.assertEqual([len(walk_down(pair[0], k)) + len(walk_up(pair[1], k)) - 1
                                  for k in range(1, places + 1)], depths(pair))

    def test_what_gives_right_pairs_gives_right_ones(self):
        for pair in pairs_of_all_kinds():
            places = len(pair[0])
            found = [mended(pair), right_within(nearest_never_missing(pair)), cheapest(pair[0], pair[1]),
                     numbered_pair(places, count_right(places) // 2)]
            with self.subTest(pair=pair):
                self.assertEqual([is_right(one) for one in found], [True] * 4)

    def test_grids_are_right_if_both_pairs_are(self):
        pairs = samples.right_pairs(3) + [([0, 1, 0], [2, 3, 4]), ([0, 0, 1], [4, 4, 4])]
        for pair, other in itertools.product(pairs, repeat=2):
            grid, sums = Grid(pair, other), [[0] * 4 for _ in range(4)]
            for i, a in itertools.product(range(1, 4), repeat=2):
                grid.change(i, a, 10 ** (3 * i + a))
                sums[i][a] = 10 ** (3 * i + a) + sums[i - 1][a] + sums[i][a - 1] - sums[i - 1][a - 1]
            told = all(grid.total(i, a) == sums[i][a] for i in range(1, 4) for a in range(1, 4))
            with self.subTest(pair=pair, other=other):
                self.assertEqual(told, is_right(pair) and is_right(other))


class Counts(unittest.TestCase):
    """The counts [8] tell what all kinds of books answer."""

    def test_their_bounds(self):
        for pair in pairs_of_all_kinds():
            with self.subTest(pair=pair):
                for i, row in enumerate(counts(pair), 1):
                    self.assertEqual(row[i - 1:], [1] + [0] * (len(row) - i))
                    self.assertTrue(all(0 <= often <= i - j + 1 for j, often in enumerate(row[:i], 1)))

    def test_totals_of_all_books(self):
        for pair in pairs_of_all_kinds():
            places = range(1, len(pair[0]) + 1)
            values = [k * k - 7 for k in places]
            wanted = [sum(often * value for often, value in zip(row, values)) for row in counts(pair)]
            joined, grid = JoinBook(pair, plus, 0), Grid(pair, ([0], [2]))
            for place, value in zip(places, values):
                joined.bring(place, value)
                grid.change(place, 1, value)
            with self.subTest(pair=pair):
                self.assertEqual(totals_of(Book(pair, values)), wanted)
                self.assertEqual([joined.total(place) for place in places], wanted)
                self.assertEqual([grid.total(place, 1) for place in places], wanted)
                self.assertEqual([total(pair[0], cells_of(pair[1], values), place) for place in places], wanted)

    def test_of_late_books(self):
        for pair in pairs_of_all_kinds():
            rows, places = counts(pair), range(1, len(pair[0]) + 1)
            book = LateBook(pair)
            for place in places:
                book.raise_to(place, 1000 ** place)
            with self.subTest(pair=pair):
                self.assertEqual([book.at(j) for j in places],
                                 [sum(rows[i - 1][j - 1] * 1000 ** i for i in places) for j in places])


class PairsAlike(unittest.TestCase):
    """Pairs that are alike [16] answer alike, whatever is done."""

    def test_all_ways_to_tell_it(self):
        for places in (1, 2, 3):
            for pair, other in itertools.product(samples.all_pairs(places), repeat=2):
                wanted = counts(pair) == counts(other)
                values = [1000 ** k for k in range(places)]
                told = [are_alike(pair, other), parting(pair, other) is None, signed_sums(pair) == signed_sums(other),
                        covers(pair) == covers(other), other in alike_pairs(pair),
                        totals_of(Book(pair, values)) == totals_of(Book(other, values)),
                        all(right_changes(pair, k, 1) == right_changes(other, k, 1) for k in range(1, places + 1))]
                with self.subTest(pair=pair, other=other):
                    self.assertEqual(told, [wanted] * len(told))

    def test_the_nearest_counts_that_differ_do_so_as_the_signed_sums(self):
        for places in (2, 3):
            for pair, other in itertools.product(samples.all_pairs(places), repeat=2):
                if not are_alike(pair, other):
                    i, j = parting(pair, other)
                    ours, theirs = [{(a, b): s for a, b, s in signed_sums(one)} for one in (pair, other)]
                    with self.subTest(pair=pair, other=other):
                        self.assertEqual(count(pair, i, j) - count(other, i, j),
                                         ours.get((i, j), 0) - theirs.get((i, j), 0))

    def test_moves_lead_to_pairs_that_answer_alike(self):
        for pair in pairs_of_all_kinds():
            values = [3 ** k for k in range(len(pair[0]))]
            told = totals_of(Book(pair, values))
            for move in forward_moves(pair) + back_moves(pair):
                new = moved(pair, move)
                with self.subTest(pair=pair, move=move):
                    self.assertIs(are_alike(pair, new), True)
                    self.assertEqual(totals_of(Book(new, values)), told)
                    self.assertEqual(right_totals(new, told), samples.up_to(values))
                    self.assertEqual(moved(new, move), pair)

    def test_a_book_that_is_turned_to_a_pair_that_is_alike_answers_as_before(self):
        for pair in samples.all_pairs(3):
            book = Book(pair, [4, -1, 9])
            told = totals_of(book)
            for other in alike_pairs(pair):
                book.turn(other)
                book.change(2, 5)
                book.undo()
                self.assertEqual(totals_of(book), told)

    def test_right_answers_from_any_pair(self):
        for pair in pairs_of_all_kinds():
            values = [7 * k - 11 for k in range(len(pair[0]))]
            book = Book(pair, values)
            told = totals_of(book)
            place = (len(values) + 1) // 2
            with self.subTest(pair=pair):
                self.assertEqual(right_totals(pair, told), samples.up_to(values))
                self.assertEqual(values_by_totals(pair, told), book.numbers)
                book += right_changes(pair, place, 40)
                self.assertEqual(totals_of(book), told[:place - 1] + [answer + 40 for answer in told[place - 1:]])
                book.undo()
                self.assertEqual(totals_of(book), told)


class TheOrder(unittest.TestCase):
    """The order of right pairs [18] is told by moves, by links and by mixes."""

    def test_all_ways_to_tell_it(self):
        for places in range(1, 6):
            pairs = list(right_pairs(places))
            for pair, other in itertools.product(pairs, repeat=2):
                one, two = Links(pair), Links(other)
                leads = one.leads_to(two)
                told = [all(a <= b for a, b in zip(pair[1], other[1])), all(a <= b for a, b in zip(pair[0], other[0])),
                        (one & two) == one, (one | two) == two, never_twice((pair[0], other[1])),
                        never_misses((other[0], pair[1])), Links(turned(other)).leads_to(Links(turned(pair)))]
                with self.subTest(pair=pair, other=other):
                    self.assertEqual(told, [leads] * len(told))
                    if leads:
                        self.assertLessEqual(pair_number(pair), pair_number(other))
                        for move in one.way_to(two):
                            pair = moved(pair, move)
                        self.assertEqual(pair, other)

    def test_the_covers_of_a_mix_are_the_counts_of_the_other_one(self):
        for pair, other in itertools.product(right_pairs(4), repeat=2):
            self.assertEqual(covers((pair[0], other[1])), counts((other[0], pair[1])))

    def test_the_first_and_the_last_pair(self):
        for places in range(1, 17):
            first, last = numbered_pair(places, 0), numbered_pair(places, count_right(places) - 1)
            with self.subTest(places=places):
                self.assertEqual((first, last), (Links.totals(places).pair, Links.plain(places).pair))
                self.assertEqual((back_moves(first), forward_moves(last)), ([], []))


class OtherGuarantees(unittest.TestCase):
    def test_two_kinds_of_operations(self):
        for pair in samples.all_pairs(1) + samples.all_pairs(2) + samples.all_pairs(3):
            places = range(1, len(pair[0]) + 1)
            united = JoinBook(pair, lambda one, two: one | two, 0)
            either = JoinBook(pair, lambda one, two: one ^ two, 0)
            for place in places:
                united.bring(place, 2 ** place)
                either.bring(place, 2 ** place)
            wanted = [2 ** (place + 1) - 2 for place in places]
            with self.subTest(pair=pair):
                self.assertEqual([united.total(place) for place in places] == wanted, never_misses(pair))
                self.assertEqual([either.total(place) for place in places] == wanted,
                                 all(often % 2 for often in samples.counts_that_should_be_1(pair)))

    def test_far_more_tables_never_miss_but_none_is_faster(self):
        for places in (2, 3, 4):
            asked, changed = list(range(1, places + 1)), [2] * places
            least = price(cheapest(asked, changed), asked, changed)
            found = [pair for pair in samples.all_pairs(places) if never_misses(pair)]
            self.assertEqual(len(found), sum(count_never_missing(down) for down in samples.all_downs(places)))
            self.assertGreater(len(found), count_right(places))
            self.assertEqual(min(price(pair, asked, changed) for pair in found), least)

    def test_what_is_least_comes_with_something_that_shows_it(self):
        for pair in pairs_of_all_kinds():
            places = len(pair[0])
            asked, changed = [link + 1 for link in pair[0]], pair[1]
            prices, mends = price_table(asked, changed), mend_table(pair)
            with self.subTest(pair=pair):
                self.assertIs(is_price_table(asked, changed, prices), True)
                self.assertEqual(prices[1, places], price(cheapest(asked, changed), asked, changed))
                self.assertIs(is_mend_table(pair, mends), True)
                self.assertEqual(mends[1, places], samples.changed_links(pair, mended(pair)))
                self.assertEqual(mends[1, places], wrong_links(pair))
                self.assertGreaterEqual(wrong_links(pair), samples.changed_links(pair, nearest_never_missing(pair)))
                self.assertEqual(clashes(nearest_never_missing(pair)), [])

    def test_a_mended_book_tells_right_totals(self):
        for pair in samples.large_pairs():
            book = Book(pair, [k + 2 for k in range(len(pair[0]))])
            book.turn(mended(pair))
            with self.subTest(pair=pair):
                self.assertEqual(totals_of(book), samples.up_to(book.numbers))
                self.assertEqual(reached(book.tables, book.numbers, book(len(book)))[0], len(book))

    def test_the_most_places(self):
        for down_most, up_most in itertools.product(range(1, 17), repeat=2):
            most = math.comb(down_most + up_most, down_most) - 1
            self.assertEqual(most_places(down_most, up_most), most)
            self.assertEqual(count_within(min(most, 16), down_most, up_most) > 0, True)


if __name__ == "__main__":
    unittest.main()
