"""How the files of the package stand: those rules of the language that can be counted."""

import ast
import pathlib
import unittest
import warnings

PACKAGE = pathlib.Path(__file__).resolve().parent.parent / "fontfall"
LIBRARY = {
    "heapq": {"heapify", "heappop", "heappush", "heappushpop", "heapreplace"},
    "itertools": {"combinations", "permutations", "product"},
    "math": {"comb", "factorial", "gcd", "isqrt", "lcm", "perm"},
}
BUILTINS = set(
    "len range enumerate zip min max sum abs sorted reversed int str bool list tuple dict set frozenset isinstance ord"
    " repr any all divmod Exception ValueError TypeError KeyError IndexError LookupError ZeroDivisionError"
    " ArithmeticError OverflowError RuntimeError NotImplementedError AttributeError StopIteration NotImplemented"
    " iter next map super".split()
)


def files():
    """Tell the files of the package, with their texts."""
    return [(path, path.read_text(encoding="utf-8")) for path in sorted(PACKAGE.rglob("*.py"))]


def nodes(kind):
    """Tell all nodes of that kind in the package, each with its file."""
    return [(path, node) for path, text in files() for node in ast.walk(ast.parse(text)) if isinstance(node, kind)]


class LayoutTest(unittest.TestCase):
    def test_the_package_holds_python_files_and_nothing_else(self):
        others = [path for path in PACKAGE.iterdir() if path.suffix != ".py" and path.name != "__pycache__"]
        self.assertEqual(others, [])
        self.assertTrue((PACKAGE / "__init__.py").is_file())

    def test_sizes_and_characters(self):
        for path, text in files():
            with self.subTest(path.name):
                lines = text.split("\n")
                self.assertLessEqual(len(lines), 399)
                self.assertLessEqual(max(len(line) for line in lines), 120)
                self.assertTrue(all(" " <= letter <= "~" or letter == "\n" for letter in text))

    def test_functions_have_at_most_forty_lines(self):
        for path, node in nodes(ast.FunctionDef):
            with self.subTest(path.name, function=node.name):
                self.assertLessEqual(node.end_lineno - node.lineno + 1, 40)

    def test_imports_are_from_the_package_and_the_few_of_the_library(self):
        self.assertEqual(nodes(ast.Import), [])
        for path, node in nodes(ast.ImportFrom):
            with self.subTest(path.name, line=node.lineno):
                self.assertEqual(node.level, 0)
                names = {alias.name for alias in node.names}
                if node.module in LIBRARY:
                    self.assertLessEqual(names, LIBRARY[node.module])
                else:
                    self.assertTrue(node.module.startswith("fontfall."))
                    self.assertNotIn("*", names)

    def test_builtins_are_the_listed_ones(self):
        builtins = set(dir(__import__("builtins"))) - BUILTINS
        used = [(path.name, node.id) for path, node in nodes(ast.Name) if node.id in builtins]
        self.assertEqual(used, [])

    def test_python_gives_no_warning(self):
        for path, text in files():
            with self.subTest(path.name), warnings.catch_warnings():
                warnings.simplefilter("error")
                compile(text, path.name, "exec")

    def test_there_is_no_float_no_division_and_no_percent_in_strings(self):
        for path, node in nodes(ast.Constant):
            with self.subTest(path.name, line=node.lineno):
                self.assertNotIsInstance(node.value, (float, complex))
                self.assertNotIn("%", node.value if isinstance(node.value, str) else "")
        self.assertEqual(nodes(ast.Div), [])


if __name__ == "__main__":
    unittest.main()
