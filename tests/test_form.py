"""The form of the package's files: what of the language's rules a short look at their trees can tell."""

import ast
import os
import unittest

FOLDER = os.path.join(os.path.dirname(os.path.dirname(os.path.abspath(__file__))), "steplinks")
BUILTINS = """len range enumerate zip min max sum abs sorted reversed int str bool list tuple dict set isinstance ord
    repr any all divmod ValueError KeyError""".split()
METHODS = """append clear copy count endswith extend find get index insert isdigit items join keys partition pop remove
    replace reverse rfind setdefault split splitlines startswith strip update values""".split()
SPECIAL = ["__init__", "__eq__"]
BARRED = (ast.GeneratorExp, ast.AsyncFunctionDef, ast.Await, ast.Div)
LIBRARY = ("collections", "heapq", "itertools", "math")
IN_FUNCTIONS_ONLY = (ast.ListComp, ast.DictComp, ast.Lambda, ast.Call)


def files():
    """The paths of the package's files, below its folder."""
    found = []
    for folder, inner, names in os.walk(FOLDER):
        inner[:] = [name for name in inner if name != "__pycache__"]
        found.extend(os.path.join(folder, name) for name in names)
    return sorted(found)


def text_of(path):
    with open(path, encoding="utf-8", newline="") as stream:
        return stream.read()


class Form(unittest.TestCase):
    def each(self):
        """Path, text and tree of each file."""
        for path in files():
            text = text_of(path)
            yield os.path.relpath(path, FOLDER), text, ast.parse(text)

    def test_nothing_but_files_with_plain_names(self):
        for path in files():
            self.assertRegex(os.path.relpath(path, FOLDER), r"^[a-z0-9_]+\.py$")
        self.assertIn(os.path.join(FOLDER, "__init__.py"), files())

    def test_signs_and_sizes(self):
        for path, text, tree in self.each():
            self.assertEqual([sign for sign in text if sign != "\n" and not " " <= sign <= "~"], [], path)
            self.assertLessEqual(len(text.splitlines()), 399, path)
            self.assertLessEqual(max(map(len, text.splitlines())), 120, path)
            for node in ast.walk(tree):
                if isinstance(node, ast.FunctionDef):
                    self.assertLessEqual(node.end_lineno - node.lineno + 1, 40, (path, node.name))

    def test_imports(self):
        for path, _, tree in self.each():
            for node in ast.walk(tree):
                self.assertNotIsInstance(node, ast.Import, path)
                if isinstance(node, ast.ImportFrom):
                    self.assertIn(node, tree.body, path)
                    self.assertEqual(node.level, 0, path)
                    if node.module in LIBRARY:
                        continue
                    self.assertRegex(node.module, r"^steplinks\.[a-z0-9_]+$", path)
                    source = ast.parse(text_of(os.path.join(FOLDER, node.module.split(".")[1] + ".py")))
                    defined = [part.name for part in source.body if hasattr(part, "name")]
                    defined += [part.targets[0].id for part in source.body if isinstance(part, ast.Assign)]
                    for name in node.names:
                        self.assertIsNone(name.asname, path)
                        self.assertIn(name.name, defined, path)

    def test_module_level(self):
        for path, _, tree in self.each():
            bound = []
            for node in tree.body:
                self.assertIsInstance(node, (ast.Expr, ast.ImportFrom, ast.FunctionDef, ast.ClassDef, ast.Assign), path)
                if isinstance(node, ast.Expr):
                    self.assertIsInstance(node.value, ast.Constant, path)
                elif isinstance(node, ast.ImportFrom):
                    bound.extend(name.name for name in node.names)
                elif isinstance(node, ast.Assign):
                    bound.extend(target.id for target in node.targets)
                    self.assertEqual([part for part in ast.walk(node) if isinstance(part, IN_FUNCTIONS_ONLY)], [])
                else:
                    bound.append(node.name)
            self.assertEqual(len(bound), len(set(bound)), path)

    def test_words(self):
        for path, _, tree in self.each():
            for node in ast.walk(tree):
                self.assertNotIsInstance(node, BARRED, path)
                if isinstance(node, (ast.FunctionDef, ast.ClassDef)):
                    self.assertEqual(node.decorator_list, [], path)
                    self.assertTrue(not node.name.startswith("__") or node.name in SPECIAL, (path, node.name))
                if isinstance(node, ast.Constant):
                    self.assertNotIsInstance(node.value, float, path)
                if isinstance(node, ast.Compare) and any(isinstance(sign, (ast.Is, ast.IsNot)) for sign in node.ops):
                    self.assertIsNone(node.comparators[0].value, path)

    def test_names_that_are_called(self):
        for path, _, tree in self.each():
            own = [node.name for node in ast.walk(tree) if isinstance(node, (ast.FunctionDef, ast.ClassDef))]
            own += [name.name for node in tree.body if isinstance(node, ast.ImportFrom) for name in node.names]
            # A variable that holds a function that was handed in.
            own += [node.targets[0].id for node in ast.walk(tree) if isinstance(node, ast.Assign)
                    and isinstance(node.targets[0], ast.Name) and isinstance(node.value, ast.Attribute)]
            for node in ast.walk(tree):
                if isinstance(node, ast.Call) and isinstance(node.func, ast.Name):
                    self.assertIn(node.func.id, own + BUILTINS, path)
                elif isinstance(node, ast.Call):
                    self.assertIn(node.func.attr, own + METHODS, path)

    def test_no_variable_hides_another_name(self):
        for path, _, tree in self.each():
            taken = BUILTINS + [name.name for node in tree.body if isinstance(node, ast.ImportFrom)
                                for name in node.names]
            taken += [node.name for node in tree.body if isinstance(node, (ast.FunctionDef, ast.ClassDef))]
            for node in ast.walk(tree):
                if isinstance(node, ast.arg):
                    self.assertNotIn(node.arg, taken, path)
                elif isinstance(node, ast.Name) and isinstance(node.ctx, ast.Store):
                    self.assertNotIn(node.id, taken, path)


if __name__ == "__main__":
    unittest.main()
