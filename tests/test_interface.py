"""The names, parameters and files of the interface, and the examples of the document and of README.md."""

import doctest
import importlib
import inspect
import os
import unittest

ROOT = os.path.dirname(os.path.dirname(os.path.abspath(__file__)))

FUNCTIONS = {
    "linksums.links": {
        "walk_down": ["down", "place"],
        "walk_up": ["up", "place"],
        "count": ["pair", "first", "second"],
        "counts": ["pair"],
        "cells_of": ["up", "values"],
        "values_of": ["up", "cells"],
        "total": ["down", "cells", "place"],
    },
    "linksums.signs": {
        "signed_sums": ["pair"],
        "are_alike": ["pair", "other"],
        "parting": ["pair", "other"],
        "alike_pairs": ["pair"],
    },
}

# Word for word as the document gives them.
LINKS_EXAMPLES = """
>>> from linksums.links import cells_of, counts, total, values_of, walk_down, walk_up
>>> pair = ([0, 0, 2, 0, 4], [2, 4, 4, 6, 6])
>>> walk_down(pair[0], 3), walk_up(pair[1], 1)
([3, 2], [1, 2, 4])
>>> cells_of(pair[1], [3, 1, 4, 1, 5]), total(pair[0], [3, 4, 4, 9, 5], 3), values_of(pair[1], [3, 4, 4, 9, 5])
([3, 4, 4, 9, 5], 8, [3, 1, 4, 1, 5])
>>> counts(([0, 1, 0], [2, 3, 4]))
[[1, 0, 0], [2, 1, 0], [1, 1, 1]]
"""
SIGNS_EXAMPLES = """
>>> from linksums.signs import alike_pairs, are_alike, parting, signed_sums
>>> signed_sums(([0, 1, 0], [2, 3, 4])), parting(([0, 1, 0], [2, 3, 4]), ([0, 1, 2], [4, 4, 4]))
([(2, 1, 2), (3, 1, -1), (3, 2, 1)], (2, 1))
>>> are_alike(([0, 0, 1, 2], [4, 3, 5, 5]), ([0, 0, 2, 1], [3, 4, 5, 5])), alike_pairs(([0, 0], [2, 3]))
(True, [([0, 0], [2, 3]), ([0, 1], [3, 3])])
"""


class Interface(unittest.TestCase):
    def test_functions_and_their_parameters(self):
        for file, functions in FUNCTIONS.items():
            for name, wanted in functions.items():
                with self.subTest(file=file, name=name):
                    function = getattr(importlib.import_module(file), name)
                    self.assertTrue(inspect.isfunction(function))
                    self.assertEqual(function.__module__, file)
                    parameters = inspect.signature(function).parameters.values()
                    self.assertEqual([parameter.name for parameter in parameters], wanted)
                    for parameter in parameters:
                        self.assertIs(parameter.kind, inspect.Parameter.POSITIONAL_OR_KEYWORD)
                        self.assertIs(parameter.default, inspect.Parameter.empty)


class Examples(unittest.TestCase):
    def test_links(self):
        self.check_examples(LINKS_EXAMPLES, "linksums.links", 5)

    def test_signs(self):
        self.check_examples(SIGNS_EXAMPLES, "linksums.signs", 3)

    def test_readme(self):
        with open(os.path.join(ROOT, "README.md"), encoding="utf-8") as file:
            self.check_examples(file.read(), "README.md", None)

    def check_examples(self, text, name, many):
        # A closing fence is no part of what an example prints.
        text = "\n".join(line for line in text.split("\n") if not line.startswith("```"))
        examples = doctest.DocTestParser().get_doctest(text, {}, name, None, 0)
        told = []
        results = doctest.DocTestRunner().run(examples, out=told.append)
        self.assertEqual(results.failed, 0, "".join(told))
        self.assertEqual(results.attempted, len(examples.examples))
        if many is None:
            self.assertGreater(results.attempted, 0)
        else:
            self.assertEqual(results.attempted, many)


if __name__ == "__main__":
    unittest.main()
