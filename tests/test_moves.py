"""Moves [17]."""

import copy
import unittest

from linksums.errors import NoMove
from linksums.links import cells_of, counts
from linksums.moves import back_moves, forward_moves, moved
from linksums.signs import alike_pairs
from linksums.trees import is_right
from tests import samples

# The pair of [17] that has no move, though another one is alike.
STUCK = ([0, 0, 1, 2], [4, 3, 5, 5])
PAIR = ([0, 0, 2, 0, 4], [2, 4, 4, 6, 6])


def all_samples():
    return samples.some_pairs() + samples.all_pairs(4) + samples.some_right_pairs()


class Moves(unittest.TestCase):
    def test_one_place_has_none(self):
        self.assertEqual(forward_moves(([0], [2])), [])
        self.assertEqual(back_moves(([0], [2])), [])

    def test_known_moves(self):
        self.assertEqual(forward_moves(([0, 0], [2, 3])), [(1, 2)])
        self.assertEqual(back_moves(([0, 0], [2, 3])), [])
        self.assertEqual(forward_moves(([0, 1], [3, 3])), [])
        self.assertEqual(back_moves(([0, 1], [3, 3])), [(1, 2)])
        self.assertEqual(forward_moves(PAIR), [(1, 2), (2, 4)])
        self.assertEqual(back_moves(PAIR), [(2, 3), (4, 5)])

    def test_pairs_without_moves(self):
        for pair in (STUCK, ([0, 1], [2, 3]), ([0, 0], [3, 3])):
            self.assertEqual(forward_moves(pair), [])
            self.assertEqual(back_moves(pair), [])
        self.assertEqual(len(alike_pairs(STUCK)), 2)

    def test_the_ends_of_the_order(self):
        for places in range(2, 17):
            steps = [(k, k + 1) for k in range(1, places)]
            self.assertEqual(forward_moves(samples.totals(places)), steps)
            self.assertEqual(back_moves(samples.totals(places)), [])
            self.assertEqual(forward_moves(samples.plain(places)), [])
            self.assertEqual(back_moves(samples.plain(places)), steps)

    def test_ascending(self):
        # Back moves are found by their second places, but stand in the order of the first ones.
        pair = ([0, 1, 2, 1], [5, 4, 4, 5])
        self.assertIs(is_right(pair), True)
        self.assertEqual(back_moves(pair), [(1, 4), (2, 3)])
        pair = ([0, 1, 1, 0], [4, 3, 4, 5])
        self.assertEqual((forward_moves(pair), back_moves(pair)), ([(1, 4), (2, 3)], [(1, 3)]))

    def test_one_place_in_several_moves(self):
        pair = ([0, 1, 1, 1], [5, 5, 5, 5])
        self.assertEqual(back_moves(pair), [(1, 2), (1, 3), (1, 4)])
        pair = ([0, 0, 0, 0], [4, 4, 4, 5])
        self.assertEqual(forward_moves(pair), [(1, 4), (2, 4), (3, 4)])

    def test_moves_are_as_defined(self):
        for pair in all_samples():
            with self.subTest(pair=pair):
                self.assertEqual(forward_moves(pair), [move for move, _ in samples.forward_from(pair)])
                self.assertEqual(back_moves(pair), [move for move, _ in samples.back_from(pair)])

    def test_they_are_lists_of_tuples_of_numbers(self):
        for found in (forward_moves(PAIR), back_moves(PAIR)):
            self.assertIs(type(found), list)
            for move in found:
                self.assertIs(type(move), tuple)
                self.assertEqual([type(place) for place in move], [int, int])


class Moved(unittest.TestCase):
    def test_known_moves(self):
        self.assertEqual(moved(([0, 0], [2, 3]), (1, 2)), ([0, 1], [3, 3]))
        self.assertEqual(moved(([0, 1], [3, 3]), (1, 2)), ([0, 0], [2, 3]))
        self.assertEqual(moved(PAIR, (1, 2)), ([0, 1, 2, 0, 4], [4, 4, 4, 6, 6]))
        self.assertEqual(moved(PAIR, (2, 4)), ([0, 0, 2, 2, 4], [2, 6, 4, 6, 6]))
        self.assertEqual(moved(PAIR, (2, 3)), ([0, 0, 0, 0, 4], [2, 3, 4, 6, 6]))
        self.assertEqual(moved(PAIR, (4, 5)), ([0, 0, 2, 0, 0], [2, 4, 4, 5, 6]))

    def test_the_pair_after_each_move(self):
        seen = 0
        for pair in all_samples():
            for move, new in samples.forward_from(pair) + samples.back_from(pair):
                with self.subTest(pair=pair, move=move):
                    kept = copy.deepcopy(pair)
                    self.assertEqual(moved(pair, move), new)
                    self.assertEqual(pair, kept)
                    seen += 1
        self.assertGreater(seen, 1000)

    def test_each_kind_takes_back_the_other(self):
        for pair in all_samples():
            for move in forward_moves(pair):
                with self.subTest(pair=pair, move=move):
                    self.assertIn(move, back_moves(moved(pair, move)))
                    self.assertEqual(moved(moved(pair, move), move), pair)
            for move in back_moves(pair):
                with self.subTest(pair=pair, move=move):
                    self.assertIn(move, forward_moves(moved(pair, move)))
                    self.assertEqual(moved(moved(pair, move), move), pair)

    def test_the_counts_stay_as_they_are(self):
        for pair in all_samples():
            for move in forward_moves(pair) + back_moves(pair):
                with self.subTest(pair=pair, move=move):
                    self.assertEqual(counts(moved(pair, move)), counts(pair))

    def test_one_cell_changes(self):
        for pair in samples.some_pairs():
            values = [5 * k - 11 for k in range(len(pair[0]))]
            cells = cells_of(pair[1], values)
            for lesser, greater in forward_moves(pair):
                wanted = list(cells)
                wanted[greater - 1] -= cells[lesser - 1]
                with self.subTest(pair=pair, move=(lesser, greater)):
                    self.assertEqual(cells_of(moved(pair, (lesser, greater))[1], values), wanted)
            for lesser, greater in back_moves(pair):
                wanted = list(cells)
                wanted[greater - 1] += cells[lesser - 1]
                with self.subTest(pair=pair, move=(lesser, greater)):
                    self.assertEqual(cells_of(moved(pair, (lesser, greater))[1], values), wanted)

    def test_forward_moves_never_lead_back(self):
        for pair in samples.all_pairs(4)[::3] + samples.right_pairs(5):
            seen, ahead = [], [pair]
            while ahead:
                now = ahead.pop()
                ahead += [new for new in (moved(now, move) for move in forward_moves(now)) if new not in seen + ahead]
                seen.append(now)
                with self.subTest(pair=pair):
                    self.assertNotIn(pair, ahead)

    def test_a_pair_is_a_tuple_of_two_lists(self):
        for move in ((1, 2), (2, 3)):
            pair = moved(PAIR, move)
            self.assertIs(type(pair), tuple)
            self.assertEqual([type(table) for table in pair], [list, list])


class NoMoves(unittest.TestCase):
    def check(self, pair, move):
        with self.assertRaises(NoMove) as caught:
            moved(pair, move)
        self.assertIs(type(caught.exception), NoMove)
        self.assertIs(caught.exception.move, move)

    def test_tuples_that_are_no_moves(self):
        for pair in (PAIR, STUCK, ([0], [2]), samples.plain(16), samples.by_powers(12)):
            places = len(pair[0])
            real = forward_moves(pair) + back_moves(pair)
            for lesser in range(-2, places + 3):
                for greater in range(-2, places + 3):
                    if (lesser, greater) not in real:
                        with self.subTest(pair=pair, move=(lesser, greater)):
                            self.check(pair, (lesser, greater))

    def test_great_numbers(self):
        great = samples.TWENTY
        for move in [(great, great), (1, great), (great, 2), (-great, 2), (1, -great), (17, 18), (0, 0)]:
            with self.subTest(move=move):
                self.check(PAIR, move)

    def test_other_things_than_tuples(self):
        for thing in [None, True, False, 0, 1, 12, "", "12", b"12", [], [1, 2], {1: 2}, {1, 2}, range(1, 3), object()]:
            with self.subTest(thing=type(thing)):
                self.check(PAIR, thing)

    def test_tuples_of_other_lengths(self):
        for thing in [(), (1,), (1, 2, 4), (1, 2, None), ((1, 2),), (1, 2, 2, 4)]:
            with self.subTest(thing=thing):
                self.check(PAIR, thing)

    def test_things_that_are_no_places(self):
        for thing in [None, "1", "2", b"1", 1.0, 2.0, [1], (1,), object()]:
            with self.subTest(thing=type(thing)):
                self.check(PAIR, (thing, 2))
                self.check(PAIR, (1, thing))
                self.check(PAIR, (thing, thing))

    def test_true_and_false(self):
        # Python takes True for 1, and (1, 2) is a move.
        self.assertIn((True, 2), forward_moves(PAIR))
        for move in [(True, 2), (True, True), (False, 2), (1, True), (1, False), (False, True)]:
            with self.subTest(move=move):
                self.check(PAIR, move)
        self.check(([0, 1], [3, 3]), (True, 2))

    def test_the_wrong_way_round(self):
        for lesser, greater in forward_moves(PAIR) + back_moves(PAIR):
            self.check(PAIR, (greater, lesser))


if __name__ == "__main__":
    unittest.main()
