"""The form of the package's files, as far as a short test can see it."""

import ast
import pathlib
import unittest

PACKAGE = pathlib.Path(__file__).resolve().parent.parent / "oneedition"
FILES = sorted(PACKAGE.rglob("*.py"))


class Form(unittest.TestCase):

    def test_the_folder_holds_nothing_but_files_of_the_program(self):
        others = [path for path in PACKAGE.rglob("*") if "__pycache__" not in path.parts and path not in FILES]
        self.assertEqual(others, [])
        self.assertIn(PACKAGE / "__init__.py", FILES)

    def test_characters_and_sizes(self):
        for path in FILES:
            text = path.read_bytes().decode("ascii")
            lines = text.split("\n")
            self.assertTrue(all(letter == "\n" or " " <= letter <= "~" for letter in text), path)
            self.assertLessEqual(len(lines), 399, path)
            self.assertLessEqual(max(len(line) for line in lines), 120, path)

    def test_functions_are_short(self):
        for path in FILES:
            for node in ast.walk(ast.parse(path.read_text())):
                if isinstance(node, ast.FunctionDef):
                    self.assertLessEqual(node.end_lineno - node.lineno + 1, 40, (path, node.name))

    def test_imports_come_from_the_package_or_the_named_library(self):
        for path in FILES:
            for node in ast.walk(ast.parse(path.read_text())):
                self.assertFalse(isinstance(node, ast.Import) and path.name != "__main__.py", path)
                if isinstance(node, ast.ImportFrom):
                    top = node.module.split(".")[0]
                    self.assertIn(top, ("oneedition", "heapq", "math", "itertools", "collections", "__future__"))


if __name__ == "__main__":
    unittest.main()
