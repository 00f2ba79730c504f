"""What can be counted of the rules of the language, for the files of the package."""

import ast
import pathlib
import unittest
import warnings

PACKAGE = pathlib.Path(__file__).resolve().parent.parent / "partwise"
LIBRARY = ("heapq", "math", "itertools")


def package_files():
    """The text of each file of the package, by its path."""
    paths = [path for path in PACKAGE.rglob("*") if path.is_file()]
    return {path: path.read_text("utf-8") for path in paths if "__pycache__" not in path.parts}


def all_nodes():
    return [
        (path, node)
        for path, text in package_files().items()
        for node in ast.walk(ast.parse(text))
    ]


class RulesTest(unittest.TestCase):
    def test_only_python_files(self):
        self.assertIn(PACKAGE / "__init__.py", package_files())
        self.assertEqual([path for path in package_files() if path.suffix != ".py"], [])

    def test_characters(self):
        for path, text in package_files().items():
            self.assertEqual([c for c in text if c != "\n" and not " " <= c <= "~"], [], path)

    def test_sizes(self):
        for path, text in package_files().items():
            lines = text.split("\n")
            self.assertLessEqual(len(lines), 399, path)
            self.assertLessEqual(max(map(len, lines)), 120, path)

    def test_sizes_of_functions(self):
        for path, node in all_nodes():
            if isinstance(node, ast.FunctionDef):
                self.assertLessEqual(node.end_lineno - node.lineno, 39, (path, node.name))

    def test_strings(self):
        for path, node in all_nodes():
            if isinstance(node, ast.Constant) and isinstance(node.value, str):
                self.assertNotIn("%", node.value, (path, node.lineno))

    def test_imports(self):
        for path, node in all_nodes():
            self.assertNotIsInstance(node, ast.Import, path)
            if isinstance(node, ast.ImportFrom):
                self.assertEqual(node.level, 0, path)
                self.assertIn(node.module.split(".")[0], ("partwise",) + LIBRARY, path)

    def test_no_warnings(self):
        with warnings.catch_warnings():
            warnings.simplefilter("error")
            for path, text in package_files().items():
                compile(text, str(path), "exec")


if __name__ == "__main__":
    unittest.main()
