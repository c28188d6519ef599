"""The rules of the language that can be seen from the code by itself."""

import ast
import pathlib
import unittest

FOLDER = pathlib.Path(__file__).resolve().parent.parent / "anyfifth"
FILES = sorted(FOLDER.glob("*.py"))
LIBRARY = {"math": {"gcd"}}
DECORATORS = {"property", "staticmethod", "classmethod"}
METHODS = {
    "init", "eq", "str", "len", "enter", "exit", "call", "iter", "lt", "le", "gt", "ge", "add", "sub", "mul",
    "floordiv", "mod", "and", "or", "xor", "radd", "rsub", "rmul", "rfloordiv", "rmod", "iadd", "neg", "invert",
    "abs", "bool", "contains", "getitem", "setitem",
}
BUILTINS = {
    "len", "range", "enumerate", "zip", "min", "max", "sum", "abs", "sorted", "reversed", "int", "str", "bool",
    "list", "tuple", "dict", "set", "isinstance", "ord", "repr", "any", "all", "divmod", "ValueError",
    "NotImplemented", "TypeError",
}


def nodes(tree, *kinds):
    return [node for node in ast.walk(tree) if isinstance(node, kinds)]


def spoken(tree):
    """All strings of a file, those within f-strings and docstrings too."""
    return [node.value for node in nodes(tree, ast.Constant) if isinstance(node.value, str)]


class LanguageTest(unittest.TestCase):
    def each_tree(self):
        for path in FILES:
            with self.subTest(path.name):
                yield path.name, ast.parse(path.read_text(encoding="ascii"))

    def test_the_package_holds_python_files_alone(self):
        names = {path.name for path in FOLDER.iterdir()} - {"__pycache__"}
        self.assertEqual(names, {path.name for path in FILES})
        self.assertIn("__init__.py", names)

    def test_characters_and_sizes(self):
        for path in FILES:
            text = path.read_text(encoding="ascii")
            self.assertTrue(all(" " <= sign <= "~" or sign == "\n" for sign in text), path.name)
            rows = text.split("\n")
            self.assertLess(len(rows), 400, path.name)
            self.assertLessEqual(max(len(row) for row in rows), 120, path.name)

    def test_functions_are_small(self):
        for name, tree in self.each_tree():
            for one in nodes(tree, ast.FunctionDef):
                self.assertLessEqual(one.end_lineno - one.lineno + 1, 40, (name, one.name))

    def test_imports(self):
        for name, tree in self.each_tree():
            self.assertEqual(nodes(tree, ast.Import), [])
            for one in nodes(tree, ast.ImportFrom):
                self.assertEqual(one.level, 0)
                told = {alias.name for alias in one.names}
                self.assertTrue(one.module.startswith("anyfifth.") or told <= LIBRARY.get(one.module, set()), one.module)
                self.assertTrue(all(alias.asname is None for alias in one.names))

    def test_methods_and_decorators(self):
        for name, tree in self.each_tree():
            for one in nodes(tree, ast.FunctionDef):
                if one.name.startswith("__"):
                    self.assertIn(one.name[2:-2], METHODS, (name, one.name))
                for sign in one.decorator_list:
                    self.assertTrue(isinstance(sign, ast.Name) and sign.id in DECORATORS, (name, one.name))
            for one in nodes(tree, ast.ClassDef):
                self.assertEqual(one.decorator_list, [])

    def test_no_statement_and_no_value_outside_the_language(self):
        # += is let in some places only; the package does without it.
        barred = (ast.AugAssign, ast.Global, ast.AsyncFunctionDef, ast.Await, ast.Div, ast.MatMult, ast.Set,
                  ast.SetComp, ast.AnnAssign, ast.Lambda)
        for name, tree in self.each_tree():
            self.assertEqual(nodes(tree, *barred), [], name)
            for one in nodes(tree, ast.Constant):
                self.assertNotIsInstance(one.value, (float, complex))
            for text in spoken(tree):
                self.assertNotIn("\x25", text)

    def test_builtins(self):
        import builtins
        for name, tree in self.each_tree():
            used = {one.id for one in nodes(tree, ast.Name)} & set(dir(builtins))
            self.assertLessEqual(used, BUILTINS | DECORATORS, name)

    def test_nothing_is_sorted_or_chosen_by_an_own_order(self):
        # Beside a class with an order these take plain numbers and strings alone.
        for name, tree in self.each_tree():
            used = {one.id for one in nodes(tree, ast.Name)}
            self.assertEqual(used & {"sorted", "min", "max"}, set(), name)


if __name__ == "__main__":
    unittest.main()
