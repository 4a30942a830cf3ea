"""The form of the package's files, as far as it is easily told: rules L1, L2, L8, L10, L14, L15, L20, L25 and L27."""

import ast
import builtins
import os
import re
import unittest

PACKAGE = os.path.join(os.path.dirname(os.path.dirname(os.path.abspath(__file__))), "linksums")
LIBRARY = {"heapq", "itertools", "math"}

# Those that rule L8 lists, and the decorators of rule L5.
BUILTINS = set("""
    len range enumerate zip min max sum abs sorted reversed int str bool bytes list tuple dict set frozenset isinstance
    ord repr any all divmod iter next map Exception ValueError TypeError KeyError IndexError LookupError
    ZeroDivisionError ArithmeticError OverflowError RuntimeError NotImplementedError AttributeError StopIteration
    NotImplemented property staticmethod classmethod
""".split())

# The methods of builtin values that rule L25 lists first, and those of its second list that are used.
METHODS = set("""
    append clear copy count endswith extend find get index insert isalnum isalpha isdigit islower isspace isupper items
    join keys ljust lower lstrip partition pop remove replace reverse rfind rjust rpartition rsplit rstrip setdefault
    split splitlines startswith strip update upper values zfill bit_length isascii
""".split())


def sources():
    """The text of each file of the package."""
    texts = {}
    for name in sorted(os.listdir(PACKAGE)):
        if name != "__pycache__":
            with open(os.path.join(PACKAGE, name), encoding="utf-8") as file:
                texts[name] = file.read()
    return texts


def nodes(*kinds):
    """Tuples of a file's name and a part of these kinds of its code, for all files."""
    return [(name, node) for name, text in sources().items() for node in ast.walk(ast.parse(text))
            if isinstance(node, kinds)]


class Form(unittest.TestCase):
    def test_names_of_files(self):
        self.assertIn("__init__.py", sources())
        for name in sources():
            self.assertRegex(name, r"\A([a-z][a-z0-9_]*|__init__|__main__)\.py\Z")

    def test_characters_and_lengths(self):
        for name, text in sources().items():
            lines = text.split("\n")
            with self.subTest(name):
                self.assertIsNone(re.search(r"[^ -~\n]", text))
                self.assertLessEqual(len(lines), 400)
                self.assertLessEqual(max(len(line) for line in lines), 120)

    def test_functions_have_at_most_40_lines(self):
        for name, text in sources().items():
            for node in ast.walk(ast.parse(text)):
                if isinstance(node, ast.FunctionDef):
                    with self.subTest(name, function=node.name):
                        self.assertLessEqual(node.end_lineno - node.lineno + 1, 40)

    def test_imports(self):
        for name, text in sources().items():
            for node in ast.walk(ast.parse(text)):
                with self.subTest(name):
                    self.assertFalse(isinstance(node, ast.Import) and name != "__main__.py")
                    if isinstance(node, ast.ImportFrom):
                        self.assertEqual(node.level, 0)
                        self.assertTrue(node.module in LIBRARY or node.module.startswith("linksums."))

    def test_builtins(self):
        for name, node in nodes(ast.Name):
            if hasattr(builtins, node.id):
                with self.subTest(name, line=node.lineno, builtin=node.id):
                    self.assertIn(node.id, BUILTINS)
                    self.assertIsInstance(node.ctx, ast.Load)

    def test_no_other_meaning_for_builtins_imports_and_classes(self):
        for name, text in sources().items():
            parts = list(ast.walk(ast.parse(text)))
            taken = {alias.name for part in parts if isinstance(part, ast.ImportFrom) for alias in part.names}
            taken |= {part.name for part in parts if isinstance(part, ast.ClassDef)}
            bound = [part.arg for part in parts if isinstance(part, ast.arg)]
            bound += [part.id for part in parts if isinstance(part, ast.Name) and isinstance(part.ctx, ast.Store)]
            for one in bound:
                with self.subTest(name, bound=one):
                    self.assertNotIn(one, taken)
                    self.assertFalse(hasattr(builtins, one))

    def test_methods_of_builtin_values(self):
        own = {node.name for _, node in nodes(ast.FunctionDef)}
        own |= {node.attr for _, node in nodes(ast.Attribute) if isinstance(node.ctx, ast.Store)}
        for name, node in nodes(ast.Attribute):
            with self.subTest(name, line=node.lineno):
                self.assertIn(node.attr, own | METHODS)

    def test_things_are_compared_by_is_only_with_constants(self):
        for name, node in nodes(ast.Compare):
            for sign, other in zip(node.ops, node.comparators):
                if isinstance(sign, (ast.Is, ast.IsNot)):
                    with self.subTest(name, line=node.lineno):
                        self.assertIn(ast.unparse(other), ["None", "True", "False"])

    def test_no_percent_sign_in_strings(self):
        for name, text in sources().items():
            for node in ast.walk(ast.parse(text)):
                if isinstance(node, ast.Constant) and isinstance(node.value, str):
                    with self.subTest(name):
                        self.assertNotIn("%", node.value)


if __name__ == "__main__":
    unittest.main()
