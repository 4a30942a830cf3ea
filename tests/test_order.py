"""The order of right pairs [18], as the class Links has it."""

import copy
import itertools
import unittest

from linksums.errors import InvalidNumber, NoWay, NotRight, UnequalPairs
from linksums.links import cells_of
from linksums.moves import forward_moves, moved
from linksums.order import Links
from linksums.trees import depths, is_right, tree_of, turned
from tests import samples

POWERS = ([0, 0, 2, 0, 4], [2, 4, 4, 6, 6])


def right_links(places):
    """An object for each right pair of so many places."""
    return [Links(pair) for pair in samples.right_pairs(places)]


def reached_from(pair):
    """All pairs to which forward moves lead, the pair itself included."""
    found, ahead = [pair], [pair]
    while ahead:
        for _, new in samples.forward_from(ahead.pop()):
            if new not in found:
                found.append(new)
                ahead.append(new)
    return found


def order(places):
    """For each right pair, as a text, the texts of all pairs to which it leads."""
    return {str(pair): {str(new) for new in reached_from(pair)} for pair in samples.right_pairs(places)}


class TheObject(unittest.TestCase):
    def test_what_is_read(self):
        for pair in samples.some_right_pairs():
            links = Links(pair)
            with self.subTest(pair=pair):
                self.assertEqual(links.pair, pair)
                self.assertIs(type(links.pair), tuple)
                self.assertEqual(links.down, pair[0])
                self.assertEqual(links.up, pair[1])
                self.assertEqual(len(links), len(pair[0]))
                self.assertIs(type(len(links)), int)

    def test_known_order_of_the_places(self):
        self.assertEqual(Links(([0], [2])).places, [1])
        self.assertEqual(Links(POWERS).places, [4, 2, 5, 1, 3])
        self.assertEqual(Links.plain(4).places, [1, 2, 3, 4])
        self.assertEqual(Links.totals(4).places, [4, 3, 2, 1])
        self.assertEqual(Links.by_powers(16).places, [16, 8, 4, 12, 2, 6, 10, 14, 1, 3, 5, 7, 9, 11, 13, 15])

    def test_the_order_of_the_places(self):
        for pair in samples.some_right_pairs():
            places = Links(pair).places
            depth = dict(enumerate(depths(pair), 1))
            with self.subTest(pair=pair):
                self.assertIs(type(places), list)
                self.assertEqual(sorted(places), list(range(1, len(pair[0]) + 1)))
                self.assertEqual(places[0], tree_of(pair)[1])
                for one, two in itertools.pairwise(places):
                    self.assertTrue(depth[one] < depth[two] or depth[one] == depth[two] and one < two)

    def test_equal_and_unequal_pairs(self):
        for places in (1, 2, 3, 4):
            pairs = samples.right_pairs(places)
            for pair, other in itertools.product(pairs, pairs):
                with self.subTest(pair=pair, other=other):
                    self.assertIs(Links(pair) == Links(copy.deepcopy(other)), pair == other)
                    self.assertIs(Links(pair) != Links(copy.deepcopy(other)), pair != other)
        self.assertIs(Links.plain(2) == Links.plain(3), False)
        self.assertIs(Links.plain(1) == Links.totals(1), True)
        links = Links(POWERS)
        self.assertIs(links == links, True)

    def test_things_of_another_class(self):
        class Other:
            """A thing that looks like the object, and says that it equals everything."""

            pair, down, up = POWERS, POWERS[0], POWERS[1]
            _down, _up = POWERS

            def __eq__(self, other):
                return True

        links = Links(POWERS)
        for thing in [None, True, 5, "", POWERS, list(POWERS), POWERS[0], {}, object(), Other(), Links, samples]:
            with self.subTest(thing=type(thing)):
                self.assertIs(links == thing, False)
                self.assertIs(links != thing, True)
        self.assertNotIn(links, [None, POWERS, object()])

    def test_what_is_passed_in_may_change_later(self):
        pair = copy.deepcopy(POWERS)
        links = Links(pair)
        pair[0][2] = 1
        pair[1].append(9)
        self.assertEqual(links.pair, POWERS)
        self.assertEqual((links.down, links.up), POWERS)
        self.assertEqual(len(links), 5)
        self.assertEqual(links, Links(POWERS))

    def test_what_is_read_is_new(self):
        links = Links(POWERS)
        for _ in range(2):
            for table in (links.down, links.up, links.places, *links.pair):
                table[0] = 7
                table.append(8)
            self.assertEqual((links.pair, links.down, links.up), (POWERS, *POWERS))
            self.assertEqual(links.places, [4, 2, 5, 1, 3])
        lists = [links.down, links.up, links.places, *links.pair, links.down, links.up, links.places, *links.pair]
        self.assertEqual(len({id(found) for found in lists}), len(lists))

    def test_the_way_is_new(self):
        links, other = Links.totals(3), Links.plain(3)
        way = links.way_to(other)
        wanted = list(way)
        way.clear()
        self.assertEqual(links.way_to(other), wanted)
        links.way_to(links).append(1)
        self.assertEqual(links.way_to(links), [])

    def test_nothing_changes_the_object(self):
        links, other = Links(POWERS), Links.plain(5)
        for _ in range(2):
            links.leads_to(other), links.way_to(other), links & other, links | other
            links.below(other, links), links.above(other, links)
            self.assertEqual((links.pair, other.pair), (POWERS, samples.plain(5)))

    def test_an_error_changes_nothing(self):
        links, other = Links(POWERS), Links.totals(5)
        for call in (lambda: links.way_to(other), lambda: links & Links.plain(3), lambda: links.above(Links.plain(1))):
            with self.assertRaises((NoWay, UnequalPairs)):
                call()
        self.assertEqual((links.pair, other.pair), (POWERS, samples.totals(5)))

    def test_pairs_that_are_not_right(self):
        for pair in samples.some_pairs() + samples.all_pairs(4):
            wrong = samples.first_wrong(pair)
            if wrong is not None:
                with self.subTest(pair=pair):
                    with self.assertRaises(NotRight) as caught:
                        Links(pair)
                    self.assertEqual((caught.exception.first, caught.exception.second), wrong)

    def test_fits(self):
        for pair in samples.some_pairs() + samples.all_pairs(4) + samples.some_right_pairs():
            with self.subTest(pair=pair):
                self.assertIs(Links.fits(pair), samples.first_wrong(pair) is None)
        self.assertIs(Links(POWERS).fits(([0, 1], [2, 3])), False)
        self.assertIs(Links(POWERS).fits(pair=([0], [2])), True)


class MadeForANumberOfPlaces(unittest.TestCase):
    def test_plain(self):
        self.assertEqual(Links.plain(1).pair, ([0], [2]))
        self.assertEqual(Links.plain(2).pair, ([0, 1], [3, 3]))
        self.assertEqual(Links.plain(5).pair, ([0, 1, 2, 3, 4], [6, 6, 6, 6, 6]))
        self.assertEqual(Links.plain(16).pair, (list(range(16)), [17] * 16))

    def test_totals(self):
        self.assertEqual(Links.totals(1).pair, ([0], [2]))
        self.assertEqual(Links.totals(2).pair, ([0, 0], [2, 3]))
        self.assertEqual(Links.totals(5).pair, ([0, 0, 0, 0, 0], [2, 3, 4, 5, 6]))
        self.assertEqual(Links.totals(16).pair, ([0] * 16, list(range(2, 18))))

    def test_by_powers(self):
        self.assertEqual(Links.by_powers(1).pair, ([0], [2]))
        self.assertEqual(Links.by_powers(2).pair, ([0, 0], [2, 3]))
        self.assertEqual(Links.by_powers(3).pair, ([0, 0, 2], [2, 4, 4]))
        self.assertEqual(Links.by_powers(5).pair, POWERS)
        self.assertEqual(Links.by_powers(7).pair, ([0, 0, 2, 0, 4, 4, 6], [2, 4, 4, 8, 6, 8, 8]))
        self.assertEqual(Links.by_powers(16).pair, (
            [0, 0, 2, 0, 4, 4, 6, 0, 8, 8, 10, 8, 12, 12, 14, 0],
            [2, 4, 4, 8, 6, 8, 8, 16, 10, 12, 12, 16, 14, 16, 16, 17]))

    def test_all_numbers_of_places(self):
        for places in range(1, 17):
            with self.subTest(places=places):
                self.assertEqual(Links.plain(places).pair, samples.plain(places))
                self.assertEqual(Links.totals(places).pair, samples.totals(places))
                self.assertEqual(Links.by_powers(places).pair, samples.by_powers(places))

    def test_cells(self):
        for places in range(1, 17):
            values = [3 * k - 7 for k in range(places)]
            with self.subTest(places=places):
                self.assertEqual(cells_of(Links.plain(places).up, values), values)
                self.assertEqual(cells_of(Links.totals(places).up, values), samples.up_to(values))

    def test_they_are_objects_of_the_class(self):
        for made in (Links.plain, Links.totals, Links.by_powers, Links(POWERS).plain):
            self.assertIs(type(made(3)), Links)
            self.assertEqual(made(places=3), made(3))
            self.assertIsNot(made(3), made(3))

    def test_no_numbers_of_places(self):
        for thing in [0, 17, -1, 100, samples.TWENTY, -samples.TWENTY, True, False, None, "3", "", b"1", 1.0, [], [3],
                      (3,), {}, object(), Links]:
            for made in (Links.plain, Links.totals, Links.by_powers):
                with self.subTest(made=made.__name__, thing=type(thing)):
                    with self.assertRaises(InvalidNumber) as caught:
                        made(thing)
                    self.assertIs(caught.exception.number, thing)


class TheOrder(unittest.TestCase):
    def test_known_order(self):
        first, last = Links(([0, 0], [2, 3])), Links(([0, 1], [3, 3]))
        self.assertIs(first.leads_to(last), True)
        self.assertIs(last.leads_to(first), False)
        self.assertIs(first.leads_to(first), True)
        self.assertIs(first.leads_to(Links(([0, 0], [2, 3]))), True)
        one, two = Links(([0, 0, 2], [2, 4, 4])), Links(([0, 1, 0], [3, 3, 4]))
        self.assertIs(one.leads_to(two), False)
        self.assertIs(two.leads_to(one), False)

    def test_leads_to(self):
        for places in (1, 2, 3, 4, 5):
            leads = order(places)
            for links, other in itertools.product(right_links(places), repeat=2):
                with self.subTest(pair=links.pair, other=other.pair):
                    self.assertIs(links.leads_to(other), str(other.pair) in leads[str(links.pair)])

    def test_the_links_tell_the_order(self):
        for places in (1, 2, 3, 4, 5):
            for links, other in itertools.product(right_links(places), repeat=2):
                with self.subTest(pair=links.pair, other=other.pair):
                    leads = links.leads_to(other)
                    self.assertEqual(leads, all(one <= two for one, two in zip(links.up, other.up)))
                    self.assertEqual(leads, all(one <= two for one, two in zip(links.down, other.down)))

    def test_the_first_and_the_last_one(self):
        for pair in samples.some_right_pairs():
            places = len(pair[0])
            with self.subTest(pair=pair):
                self.assertIs(Links.totals(places).leads_to(Links(pair)), True)
                self.assertIs(Links(pair).leads_to(Links.plain(places)), True)
                self.assertIs(Links(pair).leads_to(Links.totals(places)), pair == samples.totals(places))
                self.assertIs(Links.plain(places).leads_to(Links(pair)), pair == samples.plain(places))

    def test_turned_about_the_order_goes_the_other_way(self):
        for places in (1, 2, 3, 4):
            for links, other in itertools.product(right_links(places), repeat=2):
                turned_links, turned_other = Links(turned(links.pair)), Links(turned(other.pair))
                with self.subTest(pair=links.pair, other=other.pair):
                    self.assertEqual(turned_other.leads_to(turned_links), links.leads_to(other))

    def test_one_link_of_each_table_differs_after_a_move(self):
        for places in (1, 2, 3, 4, 5):
            for pair, other in itertools.product(samples.right_pairs(places), repeat=2):
                downs, ups = [sum(a != b for a, b in zip(*tables)) for tables in zip(pair, other)]
                with self.subTest(pair=pair, other=other):
                    self.assertEqual((downs == 0, ups == 0), (pair == other, pair == other))
                    self.assertEqual(downs == 1 and ups == 1, other in samples.moves_from(pair))


class Ways(unittest.TestCase):
    def check_way(self, links, other):
        way = links.way_to(other)
        self.assertIs(type(way), list)
        pair = links.pair
        for move in way:
            self.assertIs(type(move), tuple)
            self.assertEqual([type(place) for place in move], [int, int])
            self.assertIn(move, forward_moves(pair))
            pair = moved(pair, move)
        self.assertEqual(pair, other.pair)
        self.assertEqual(way == [], links == other)

    def check_no_way(self, links, other):
        with self.assertRaises(NoWay) as caught:
            links.way_to(other)
        self.assertIs(type(caught.exception), NoWay)

    def test_known_ways(self):
        self.assertEqual(Links.totals(2).way_to(Links.plain(2)), [(1, 2)])
        self.assertEqual(Links(POWERS).way_to(Links(POWERS)), [])
        self.assertEqual(Links.plain(1).way_to(Links.totals(1)), [])
        self.check_no_way(Links.plain(2), Links.totals(2))
        self.check_no_way(Links(([0, 0, 2], [2, 4, 4])), Links(([0, 1, 0], [3, 3, 4])))

    def test_all_ways(self):
        for places in (1, 2, 3, 4, 5):
            leads = order(places)
            for links, other in itertools.product(right_links(places), repeat=2):
                with self.subTest(pair=links.pair, other=other.pair):
                    if str(other.pair) in leads[str(links.pair)]:
                        self.check_way(links, other)
                    else:
                        self.check_no_way(links, other)

    def test_ways_of_large_pairs(self):
        found = 0
        large = [Links(pair) for pair in samples.some_right_pairs() if len(pair[0]) > 5]
        for links, other in itertools.product(large, repeat=2):
            if len(links) == len(other):
                with self.subTest(pair=links.pair, other=other.pair):
                    if all(one <= two for one, two in zip(links.up, other.up)):
                        self.check_way(links, other)
                        found += 1
                    else:
                        self.check_no_way(links, other)
        self.assertGreater(found, 20)

    def test_the_longest_way(self):
        self.check_way(Links.totals(16), Links.plain(16))
        self.check_no_way(Links.plain(16), Links.totals(16))


class GreatestAndLeast(unittest.TestCase):
    def test_known_ones(self):
        one, two = Links(([0, 0, 2], [2, 4, 4])), Links(([0, 1, 0], [3, 3, 4]))
        self.assertEqual((one & two).pair, ([0, 0, 0], [2, 3, 4]))
        self.assertEqual((one | two).pair, ([0, 1, 2], [4, 4, 4]))
        self.assertEqual(Links.plain(5) & Links(POWERS), Links(POWERS))
        self.assertEqual(Links.plain(5) | Links(POWERS), Links.plain(5))
        self.assertEqual(Links.totals(5) & Links(POWERS), Links.totals(5))
        self.assertEqual(Links.totals(5) | Links(POWERS), Links(POWERS))

    def test_two_held_against_the_order(self):
        for places in (1, 2, 3, 4):
            for links, other in itertools.product(right_links(places), repeat=2):
                with self.subTest(pair=links.pair, other=other.pair):
                    self.assertEqual((links & other).pair, self.greatest(places, [links, other]))
                    self.assertEqual((links | other).pair, self.least(places, [links, other]))
                    self.assertEqual(links.below(other), links & other)
                    self.assertEqual(links.above(other), links | other)

    def test_several_held_against_the_order(self):
        for places in (1, 2, 3, 4):
            for chosen in list(itertools.product(right_links(places), repeat=3))[::3]:
                links, *others = chosen
                with self.subTest(pairs=[one.pair for one in chosen]):
                    self.assertEqual(links.below(*others).pair, self.greatest(places, chosen))
                    self.assertEqual(links.above(*others).pair, self.least(places, chosen))

    def test_all_of_them(self):
        for places in (1, 2, 3, 4, 5):
            links, *others = right_links(places)
            self.assertEqual(links.below(*others), Links.totals(places))
            self.assertEqual(links.above(*others), Links.plain(places))

    def test_none(self):
        for pair in samples.some_right_pairs():
            links = Links(pair)
            with self.subTest(pair=pair):
                self.assertEqual(links.below(), links)
                self.assertEqual(links.above(), links)

    def test_the_links(self):
        large = [Links(pair) for pair in samples.some_right_pairs() if len(pair[0]) > 5]
        for links, other in itertools.product(large, repeat=2):
            if len(links) == len(other):
                with self.subTest(pair=links.pair, other=other.pair):
                    self.assertEqual((links & other).up, [min(both) for both in zip(links.up, other.up)])
                    self.assertEqual((links | other).down, [max(both) for both in zip(links.down, other.down)])

    def test_they_are_other_objects_of_the_class(self):
        links, other = Links(POWERS), Links.plain(5)
        for found in (links & other, links | other, links.below(), links.above(), links.below(links),
                      links.above(links), links & links, links | links, links.below(other, other)):
            self.assertIs(type(found), Links)
            self.assertIs(is_right(found.pair), True)

    def greatest(self, places, chosen):
        """The one pair that leads to all chosen ones, and to which all lead that do so."""
        leads = self.orders[places]
        both = [pair for pair in self.pairs[places] if {str(one.pair) for one in chosen} <= leads[str(pair)]]
        found = [pair for pair in both if all(str(pair) in leads[str(one)] for one in both)]
        self.assertEqual(len(found), 1)
        return found[0]

    def least(self, places, chosen):
        """The one pair to which all chosen ones lead, and which leads to all to which they do so."""
        leads = self.orders[places]
        both = [pair for pair in self.pairs[places] if all(str(pair) in leads[str(one.pair)] for one in chosen)]
        found = [pair for pair in both if {str(one) for one in both} <= leads[str(pair)]]
        self.assertEqual(len(found), 1)
        return found[0]

    @classmethod
    def setUpClass(cls):
        cls.orders = {places: order(places) for places in (1, 2, 3, 4)}
        cls.pairs = {places: samples.right_pairs(places) for places in (1, 2, 3, 4)}


class UnequalNumbersOfPlaces(unittest.TestCase):
    def check(self, first, second, call):
        with self.assertRaises(UnequalPairs) as caught:
            call()
        self.assertIs(type(caught.exception), UnequalPairs)
        self.assertEqual((caught.exception.first, caught.exception.second), (first, second))
        self.assertEqual({type(caught.exception.first), type(caught.exception.second)}, {int})

    def test_one_other(self):
        for places, others in itertools.permutations((1, 2, 5, 16), 2):
            for links, other in itertools.product((Links.plain(places), Links.totals(places)),
                                                  (Links.plain(others), Links.totals(others))):
                with self.subTest(places=places, others=others):
                    # There is no way to another number of places, but this error comes first.
                    self.check(places, others, lambda: links.leads_to(other))
                    self.check(places, others, lambda: links.way_to(other))
                    self.check(places, others, lambda: links & other)
                    self.check(places, others, lambda: links | other)
                    self.check(places, others, lambda: links.below(other))
                    self.check(places, others, lambda: links.above(other))

    def test_the_first_one_of_several(self):
        links, same, three, four = Links(POWERS), Links.plain(5), Links.plain(3), Links.totals(4)
        for call in (links.below, links.above):
            self.check(5, 3, lambda: call(three, four))
            self.check(5, 4, lambda: call(four, three))
            self.check(5, 4, lambda: call(same, four, three))
            self.check(5, 3, lambda: call(same, links, three))
            self.check(5, 3, lambda: call(three, same))


class ByNameAndByPosition(unittest.TestCase):
    def test_the_same(self):
        links, other = Links(POWERS), Links.plain(5)
        self.assertEqual(Links(pair=POWERS), Links(POWERS))
        self.assertIs(links.leads_to(other=other), True)
        self.assertEqual(links.way_to(other=other), links.way_to(other))
        self.assertEqual(Links.plain(places=4), Links.plain(4))
        self.assertEqual(Links.totals(places=4), Links.totals(4))
        self.assertEqual(Links.by_powers(places=4), Links.by_powers(4))
        self.assertIs(Links.fits(pair=POWERS), Links.fits(POWERS))


if __name__ == "__main__":
    unittest.main()
