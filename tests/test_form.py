"""The form of the package's files, as far as it is easily told: rules L1, L2, L10, L14 and L27."""

import ast
import os
import re
import unittest

PACKAGE = os.path.join(os.path.dirname(os.path.dirname(os.path.abspath(__file__))), "linksums")
LIBRARY = {"heapq", "itertools", "math"}


def sources():
    """The text of each file of the package."""
    texts = {}
    for name in sorted(os.listdir(PACKAGE)):
        if name != "__pycache__":
            with open(os.path.join(PACKAGE, name), encoding="utf-8") as file:
                texts[name] = file.read()
    return texts


class Form(unittest.TestCase):
    def test_names_of_files(self):
        self.assertIn("__init__.py", sources())
        for name in sources():
            self.assertRegex(name, r"\A([a-z][a-z0-9_]*|__init__|__main__)\.py\Z")

    def test_characters_and_lengths(self):
        for name, text in sources().items():
            lines = text.split("\n")
            with self.subTest(name):
                self.assertIsNone(re.search(r"[^ -~\n]", text))
                self.assertLessEqual(len(lines), 400)
                self.assertLessEqual(max(len(line) for line in lines), 120)

    def test_functions_have_at_most_40_lines(self):
        for name, text in sources().items():
            for node in ast.walk(ast.parse(text)):
                if isinstance(node, ast.FunctionDef):
                    with self.subTest(name, function=node.name):
                        self.assertLessEqual(node.end_lineno - node.lineno + 1, 40)

    def test_imports(self):
        for name, text in sources().items():
            for node in ast.walk(ast.parse(text)):
                with self.subTest(name):
                    self.assertFalse(isinstance(node, ast.Import) and name != "__main__.py")
                    if isinstance(node, ast.ImportFrom):
                        self.assertEqual(node.level, 0)
                        self.assertTrue(node.module in LIBRARY or node.module.startswith("linksums."))

    def test_no_percent_sign_in_strings(self):
        for name, text in sources().items():
            for node in ast.walk(ast.parse(text)):
                if isinstance(node, ast.Constant) and isinstance(node.value, str):
                    with self.subTest(name):
                        self.assertNotIn("%", node.value)


if __name__ == "__main__":
    unittest.main()
