"""The form of the package's files, as far as a short test can see it."""

import ast
import builtins
import pathlib
import unittest

PACKAGE = pathlib.Path(__file__).resolve().parent.parent / "oneedition"
FILES = sorted(PACKAGE.rglob("*.py"))
TREES = {path: ast.parse(path.read_text()) for path in FILES}
BUILTINS = set("""len range enumerate zip min max sum abs sorted reversed int str bool list tuple dict set isinstance ord
                  repr any all ValueError""".split())
METHODS = set("""append clear copy count endswith extend find get index insert isdigit items join keys partition pop
                 setdefault split startswith strip update values bit_length""".split())
BARRED = set("""register mro elements open input law add_note compile eval exec exit id type vars super sys next iter
                print format sort""".split())


def found(kind):
    """Yield all nodes of a kind, with their files."""
    for path, tree in TREES.items():
        for node in ast.walk(tree):
            if isinstance(node, kind):
                yield path, node


def methods():
    """Return the names of all methods of the package."""
    return {part.name for _, node in found(ast.ClassDef) for part in node.body if isinstance(part, ast.FunctionDef)}


class Form(unittest.TestCase):

    def test_the_folder_holds_nothing_but_files_of_the_program(self):
        others = [path for path in PACKAGE.rglob("*") if "__pycache__" not in path.parts and path not in FILES]
        self.assertEqual(others, [])
        self.assertIn(PACKAGE / "__init__.py", FILES)

    def test_characters_and_sizes(self):
        for path in FILES:
            text = path.read_bytes().decode("ascii")
            lines = text.split("\n")
            self.assertTrue(all(letter == "\n" or " " <= letter <= "~" for letter in text), path)
            self.assertLessEqual(len(lines), 399, path)
            self.assertLessEqual(max(len(line) for line in lines), 120, path)

    def test_functions_are_short(self):
        for path, node in found(ast.FunctionDef):
            self.assertLessEqual(node.end_lineno - node.lineno + 1, 40, (path, node.name))
            self.assertEqual(node.decorator_list, [], (path, node.name))

    def test_imports_come_from_the_package(self):
        for path, _ in found(ast.Import):
            self.fail(path)
        for path, node in found(ast.ImportFrom):
            folder, name = node.module.split(".")
            self.assertEqual(folder, "oneedition", path)
            bound = {part.name for part in TREES[PACKAGE / f"{name}.py"].body if hasattr(part, "name")}
            bound |= {target.id for part in TREES[PACKAGE / f"{name}.py"].body if isinstance(part, ast.Assign)
                      for target in part.targets}
            # Each name is imported from the file that defines it.
            self.assertLessEqual({part.name for part in node.names}, bound, (path, name))

    def test_no_files_import_from_each_other(self):
        after = {path.stem: set() for path in FILES}
        for path, node in found(ast.ImportFrom):
            after[path.stem].add(node.module.split(".")[1])
        while after:
            free = [name for name, needed in after.items() if not needed & set(after)]
            self.assertTrue(free, after)
            after = {name: needed for name, needed in after.items() if name not in free}

    def test_only_plain_builtins_and_methods_are_called(self):
        own = methods()
        for path, node in found(ast.Call):
            if isinstance(node.func, ast.Name) and hasattr(builtins, node.func.id):
                self.assertIn(node.func.id, BUILTINS, (path, node.lineno))
            if isinstance(node.func, ast.Attribute):
                self.assertIn(node.func.attr, METHODS | own, (path, node.lineno))

    def test_nothing_that_the_subset_leaves_out(self):
        kinds = (ast.GeneratorExp, ast.Global, ast.AsyncFunctionDef, ast.YieldFrom, ast.Assert, ast.AugAssign, ast.AnnAssign)
        for path, node in found(kinds):
            self.fail((path, node.lineno))
        for path, node in found(ast.Constant):
            self.assertNotIsInstance(node.value, (float, bytes), (path, node.lineno))
        for path, node in found(ast.Compare):
            if isinstance(node.ops[0], (ast.Is, ast.IsNot)):
                self.assertIn(getattr(node.comparators[0], "value", "no"), (None, True, False), (path, node.lineno))

    def test_names(self):
        attributes = {node.attr for _, node in found(ast.Attribute) if isinstance(node.ctx, ast.Store)}
        self.assertEqual(attributes & methods(), set())
        self.assertEqual(attributes & (BARRED | METHODS), set())
        for path, tree in TREES.items():
            imported = {part.asname or part.name for node in tree.body if isinstance(node, ast.ImportFrom)
                        for part in node.names}
            classes = {node.name for node in tree.body if isinstance(node, ast.ClassDef)}
            bound = {node.arg for node in ast.walk(tree) if isinstance(node, ast.arg)}
            bound |= {node.id for node in ast.walk(tree) if isinstance(node, ast.Name) and isinstance(node.ctx, ast.Store)}
            used = {node.id for node in ast.walk(tree) if isinstance(node, ast.Name)}
            self.assertEqual(bound & (imported | classes | BARRED), set(), path)
            self.assertEqual({name for name in bound if hasattr(builtins, name)} - {"_"}, set(), path)
            self.assertLessEqual(imported, used, path)


if __name__ == "__main__":
    unittest.main()
