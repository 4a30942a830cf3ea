"""The names, parameters and files of the interface, and the examples of the document and of README.md."""

import doctest
import importlib
import inspect
import os
import unittest

ROOT = os.path.dirname(os.path.dirname(os.path.abspath(__file__)))

# Parameters are written as Python shows them.
FUNCTIONS = {
    "linksums.links": {
        "walk_down": ["down", "place"],
        "walk_up": ["up", "place"],
        "count": ["pair", "first", "second"],
        "counts": ["pair"],
        "cells_of": ["up", "values"],
        "values_of": ["up", "cells"],
        "total": ["down", "cells", "place"],
    },
    "linksums.signs": {
        "signed_sums": ["pair"],
        "are_alike": ["pair", "other"],
        "parting": ["pair", "other"],
        "alike_pairs": ["pair"],
    },
    "linksums.covers": {
        "covers": ["pair"],
        "right_totals": ["pair", "totals"],
        "values_by_totals": ["pair", "totals"],
        "right_changes": ["pair", "place", "more"],
    },
    "linksums.trees": {
        "is_right": ["pair"],
        "up_for": ["down"],
        "down_for": ["up"],
        "tree_of": ["pair"],
        "pair_of": ["tree"],
        "depths": ["pair"],
        "turned": ["pair"],
    },
    "linksums.moves": {
        "forward_moves": ["pair"],
        "back_moves": ["pair"],
        "moved": ["pair", "move"],
    },
    "linksums.lists": {
        "count_right": ["places"],
        "right_pairs": ["places", "*", "start=0"],
        "pair_number": ["pair"],
        "numbered_pair": ["places", "number"],
        "count_within": ["places", "down_most", "up_most"],
        "most_places": ["down_most", "up_most"],
        "fullest_pair": ["down_most", "up_most"],
        "count_by_looks": ["places", "down_all", "up_all"],
    },
    "linksums.joins": {
        "limits": ["down"],
        "never_misses": ["pair"],
        "never_twice": ["pair"],
        "count_never_missing": ["down"],
        "right_within": ["pair"],
        "clashes": ["pair"],
        "clashes_apart": ["pair"],
        "nearest_never_missing": ["pair"],
    },
    "linksums.prices": {
        "price": ["pair", "asked", "changed"],
        "cheapest": ["asked", "changed"],
        "price_table": ["asked", "changed"],
        "is_price_table": ["asked", "changed", "table"],
    },
    "linksums.mends": {
        "wrong_links": ["pair"],
        "mended": ["pair"],
        "mend_table": ["pair"],
        "is_mend_table": ["pair", "table"],
    },
    "linksums.search": {
        "reached": ["pair", "values", "least"],
    },
    "linksums.text": {
        "format_pair": ["pair"],
        "parse_pair": ["text"],
    },
}

# What must stand in the body of each class itself.
PROPERTIES = {
    ("linksums.order", "Links"): ["pair", "down", "up", "places"],
    ("linksums.joins", "JoinBook"): ["cells"],
    ("linksums.joins", "OrderBook"): ["cells"],
    ("linksums.books", "Book"): ["tables", "numbers", "cells", "looks"],
}
METHODS = {
    ("linksums.order", "Links"): {
        "__init__": ["self", "pair"],
        "__len__": ["self"],
        "__eq__": ["self", "other"],
        "__and__": ["self", "other"],
        "__or__": ["self", "other"],
        "leads_to": ["self", "other"],
        "way_to": ["self", "other"],
        "below": ["self", "*others"],
        "above": ["self", "*others"],
    },
    ("linksums.joins", "JoinBook"): {
        "__init__": ["self", "pair", "join", "nought"],
        "bring": ["self", "place", "value"],
        "total": ["self", "place"],
    },
    ("linksums.joins", "OrderBook"): {
        "__init__": ["self", "pair", "join", "row"],
        "put": ["self", "place", "value"],
        "total": ["self", "place"],
    },
    ("linksums.books", "Book"): {
        "__init__": ["self", "pair", "values"],
        "__call__": ["self", "place", "after=0"],
        "__getitem__": ["self", "at"],
        "__setitem__": ["self", "at", "worth"],
        "__iadd__": ["self", "other"],
        "__len__": ["self"],
        "change": ["self", "place", "more"],
        "turn": ["self", "pair"],
        "undo": ["self"],
    },
    ("linksums.books", "LateBook"): {
        "__init__": ["self", "pair"],
        "raise_to": ["self", "place", "more"],
        "at": ["self", "place"],
    },
    ("linksums.books", "Grid"): {
        "__init__": ["self", "pair", "other"],
        "change": ["self", "row", "column", "more"],
        "total": ["self", "row", "column"],
    },
}
CLASS_METHODS = {
    ("linksums.order", "Links"): {
        "plain": ["cls", "places"],
        "totals": ["cls", "places"],
        "by_powers": ["cls", "places"],
    },
}
STATIC_METHODS = {("linksums.order", "Links"): {"fits": ["pair"]}}

# Word for word as the document gives them.
LINKS_EXAMPLES = """
>>> from linksums.links import cells_of, counts, total, values_of, walk_down, walk_up
>>> pair = ([0, 0, 2, 0, 4], [2, 4, 4, 6, 6])
>>> walk_down(pair[0], 3), walk_up(pair[1], 1)
([3, 2], [1, 2, 4])
>>> cells_of(pair[1], [3, 1, 4, 1, 5]), total(pair[0], [3, 4, 4, 9, 5], 3), values_of(pair[1], [3, 4, 4, 9, 5])
([3, 4, 4, 9, 5], 8, [3, 1, 4, 1, 5])
>>> counts(([0, 1, 0], [2, 3, 4]))
[[1, 0, 0], [2, 1, 0], [1, 1, 1]]
"""
SIGNS_EXAMPLES = """
>>> from linksums.signs import alike_pairs, are_alike, parting, signed_sums
>>> signed_sums(([0, 1, 0], [2, 3, 4])), parting(([0, 1, 0], [2, 3, 4]), ([0, 1, 2], [4, 4, 4]))
([(2, 1, 2), (3, 1, -1), (3, 2, 1)], (2, 1))
>>> are_alike(([0, 0, 1, 2], [4, 3, 5, 5]), ([0, 0, 2, 1], [3, 4, 5, 5])), alike_pairs(([0, 0], [2, 3]))
(True, [([0, 0], [2, 3]), ([0, 1], [3, 3])])
"""
COVERS_EXAMPLES = """
>>> from linksums.covers import covers, right_changes, right_totals, values_by_totals
>>> pair = ([0, 1, 1], [3, 4, 4])
>>> covers(pair), right_totals(pair, [5, 8, 17]), values_by_totals(pair, [5, 8, 17]), right_changes(pair, 1, 1)
([[1, 0, 0], [1, 1, 0], [0, 2, 1]], [5, 8, 15], [5, 3, 7], [1, 0, -1])
"""
TREES_EXAMPLES = """
>>> from linksums.trees import depths, is_right, tree_of, up_for
>>> pair = ([0, 0, 2, 0, 4], [2, 4, 4, 6, 6])
>>> tree_of(pair), depths(pair), is_right(([0, 1, 0], [2, 3, 4]))
((((None, 1, None), 2, (None, 3, None)), 4, (None, 5, None)), [3, 2, 3, 1, 2], False)
>>> up_for([0, 0, 2, 0, 4]), up_for([0, 0, 1])
([2, 4, 4, 6, 6], None)
"""
MOVES_EXAMPLES = """
>>> from linksums.moves import back_moves, forward_moves, moved
>>> forward_moves(([0, 0], [2, 3])), back_moves(([0, 0], [2, 3])), moved(([0, 0], [2, 3]), (1, 2))
([(1, 2)], [], ([0, 1], [3, 3]))
"""
ORDER_EXAMPLES = """
>>> from linksums.order import Links
>>> Links.totals(2).way_to(Links.plain(2)), Links.by_powers(5).pair
([(1, 2)], ([0, 0, 2, 0, 4], [2, 4, 4, 6, 6]))
>>> (Links(([0, 0, 2], [2, 4, 4])) & Links(([0, 1, 0], [3, 3, 4]))).pair
([0, 0, 0], [2, 3, 4])
"""
LISTS_EXAMPLES = """
>>> from linksums.lists import count_by_looks, count_right, count_within, fullest_pair, most_places, right_pairs
>>> count_right(4), list(right_pairs(2)), list(right_pairs(3, start=4)), count_within(3, 2, 2), count_by_looks(3, 4, 5)
(14, [([0, 0], [2, 3]), ([0, 1], [3, 3])], [([0, 1, 2], [4, 4, 4])], 3, 1)
>>> most_places(2, 2), fullest_pair(2, 2)
(5, ([0, 1, 0, 3, 3], [3, 3, 6, 5, 6]))
"""
JOINS_EXAMPLES = """
>>> from linksums.joins import count_never_missing, limits, never_misses, never_twice
>>> limits([0, 1, 0]), count_never_missing([0, 1, 0])
([3, 3, 4], 2)
>>> never_misses(([0, 1, 0], [2, 3, 4])), never_twice(([0, 1, 0], [2, 3, 4]))
(True, False)
"""
PRICES_EXAMPLES = """
>>> from linksums.prices import cheapest, is_price_table, price
>>> price(([0, 0, 2, 0, 4], [2, 4, 4, 6, 6]), [1, 1, 1, 1, 1], [0, 0, 0, 0, 0]), cheapest([1, 1], [0, 0])
(7, ([0, 0], [2, 3]))
>>> is_price_table([1, 1], [0, 0], {(1, 1): 1, (1, 2): 2, (2, 2): 1}), is_price_table([1, 1], [0, 0], {(1, 1): 1, (1, 2): 3, (2, 2): 1})
(True, False)
"""
MENDS_EXAMPLES = """
>>> from linksums.mends import wrong_links
>>> wrong_links(([0, 1, 0], [2, 3, 4])), wrong_links(([0, 0, 2], [2, 4, 4]))
(1, 0)
"""
BOOKS_EXAMPLES = """
>>> from linksums.books import Book
>>> book = Book(([0, 1, 0], [2, 3, 4]), [1, 2, 3])
>>> book.cells, book(2), book(3), book.looks, book.turn(([0, 1, 2], [4, 4, 4])), book.cells
([1, 3, 6], 4, 6, 3, [2, 3], [1, 2, 3])
>>> book.change(1, 4), book.numbers, book(3), book[1], book.undo(), book.numbers, book.looks
(None, [5, 2, 3], 10, 5, None, [1, 2, 3], 7)
"""
SEARCH_EXAMPLES = """
>>> from linksums.search import reached
>>> reached(([0, 0, 2, 0, 4], [2, 4, 4, 6, 6]), [3, 1, 4, 1, 5], 8)
(3, 3)
"""
TEXT_EXAMPLES = """
>>> from linksums.text import format_pair, parse_pair
>>> format_pair(([0, 1], [3, 3])), parse_pair('0 0\\n2 3')
('0 1\\n3 3', ([0, 0], [2, 3]))
"""


def readme():
    with open(os.path.join(ROOT, "README.md"), encoding="utf-8") as file:
        return file.read()


def found_class(key):
    """A class, by the file that defines it and its name."""
    file, name = key
    return getattr(importlib.import_module(file), name)


class Interface(unittest.TestCase):
    def test_functions_and_their_parameters(self):
        for file, functions in FUNCTIONS.items():
            for name, wanted in functions.items():
                with self.subTest(file=file, name=name):
                    function = getattr(importlib.import_module(file), name)
                    self.assertTrue(inspect.isfunction(function))
                    self.assertEqual(function.__module__, file)
                    self.assertEqual(str(inspect.signature(function)), f"({', '.join(wanted)})")

    def test_classes_are_defined_in_their_files(self):
        for key in METHODS:
            with self.subTest(key):
                self.assertTrue(inspect.isclass(found_class(key)))
                self.assertEqual(found_class(key).__module__, key[0])

    def test_methods_and_their_parameters(self):
        for key, methods in METHODS.items():
            for name, wanted in methods.items():
                self.check_method(vars(found_class(key))[name], wanted)

    def test_class_methods_and_static_methods(self):
        for kind, listed in ((classmethod, CLASS_METHODS), (staticmethod, STATIC_METHODS)):
            for key, methods in listed.items():
                for name, wanted in methods.items():
                    method = vars(found_class(key))[name]
                    self.assertIs(type(method), kind)
                    self.check_method(method.__func__, wanted)

    def test_properties_are_only_read(self):
        for key, names in PROPERTIES.items():
            for name in names:
                with self.subTest(key, name=name):
                    found = vars(found_class(key))[name]
                    self.assertIs(type(found), property)
                    self.assertIsNone(found.fset)

    def check_method(self, method, wanted):
        with self.subTest(method.__qualname__):
            self.assertTrue(inspect.isfunction(method))
            self.assertEqual(str(inspect.signature(method)), f"({', '.join(wanted)})")


class Examples(unittest.TestCase):
    def test_links(self):
        self.check_examples(LINKS_EXAMPLES, "linksums.links", 5)

    def test_signs(self):
        self.check_examples(SIGNS_EXAMPLES, "linksums.signs", 3)

    def test_covers(self):
        self.check_examples(COVERS_EXAMPLES, "linksums.covers", 3)

    def test_trees(self):
        self.check_examples(TREES_EXAMPLES, "linksums.trees", 4)

    def test_moves(self):
        self.check_examples(MOVES_EXAMPLES, "linksums.moves", 2)

    def test_order(self):
        self.check_examples(ORDER_EXAMPLES, "linksums.order", 3)

    def test_lists(self):
        self.check_examples(LISTS_EXAMPLES, "linksums.lists", 3)

    def test_joins(self):
        self.check_examples(JOINS_EXAMPLES, "linksums.joins", 3)

    def test_prices(self):
        self.check_examples(PRICES_EXAMPLES, "linksums.prices", 3)

    def test_mends(self):
        self.check_examples(MENDS_EXAMPLES, "linksums.mends", 2)

    def test_books(self):
        self.check_examples(BOOKS_EXAMPLES, "linksums.books", 4)

    def test_search(self):
        self.check_examples(SEARCH_EXAMPLES, "linksums.search", 2)

    def test_text(self):
        self.check_examples(TEXT_EXAMPLES, "linksums.text", 2)

    def test_readme(self):
        self.check_examples(readme(), "README.md", None)

    def test_readme_names_all_modules_of_the_interface(self):
        for file in {*FUNCTIONS, *[file for file, _ in METHODS], "linksums.errors"}:
            with self.subTest(file):
                self.assertTrue(f"`{file}`" in readme())

    def check_examples(self, text, name, many):
        # A closing fence is no part of what an example prints.
        text = "\n".join(line for line in text.split("\n") if not line.startswith("```"))
        examples = doctest.DocTestParser().get_doctest(text, {}, name, None, 0)
        told = []
        results = doctest.DocTestRunner().run(examples, out=told.append)
        self.assertEqual(results.failed, 0, "".join(told))
        self.assertEqual(results.attempted, len(examples.examples))
        if many is None:
            self.assertGreater(results.attempted, 0)
        else:
            self.assertEqual(results.attempted, many)


if __name__ == "__main__":
    unittest.main()
