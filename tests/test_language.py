"""The rules of the language that can be seen from the code by itself."""

import ast
import builtins
import pathlib
import re
import unittest

FOLDER = pathlib.Path(__file__).resolve().parent.parent / "anyfifth"
FILES = sorted(FOLDER.glob("*.py"))
LIBRARY = {"math": {"gcd"}}
DECORATORS = {"property", "staticmethod", "classmethod"}
METHODS = {
    "init", "eq", "str", "len", "enter", "exit", "call", "iter", "lt", "le", "gt", "ge", "add", "sub", "mul",
    "floordiv", "mod", "and", "or", "xor", "radd", "rsub", "rmul", "rfloordiv", "rmod", "iadd", "neg", "invert",
    "abs", "bool", "contains", "getitem", "setitem",
}
BUILTINS = {
    "len", "range", "enumerate", "zip", "min", "max", "sum", "abs", "sorted", "reversed", "int", "str", "bool",
    "list", "tuple", "dict", "set", "isinstance", "ord", "repr", "any", "all", "divmod", "ValueError",
    "NotImplemented", "TypeError", "iter", "super",
}
BUILTIN_METHODS = {
    "append", "extend", "pop", "index", "items", "values", "join", "split", "partition", "strip", "startswith",
    "zfill", "isascii", "isdigit", "isalpha", "islower", "replace",
}
# Attributes that are called: a tone stands in a height and in a move, another one at the start of a melody.
CALLED = {"tone", "start"}


def nodes(tree, *kinds):
    return [node for node in ast.walk(tree) if isinstance(node, kinds)]


def spoken(tree):
    """All strings of a file, those within f-strings and docstrings too."""
    return [node.value for node in nodes(tree, ast.Constant) if isinstance(node.value, str)]


class LanguageTest(unittest.TestCase):
    def each_tree(self):
        for path in FILES:
            with self.subTest(path.name):
                yield path.name, ast.parse(path.read_text(encoding="ascii"))

    def test_the_package_holds_python_files_alone(self):
        names = {path.name for path in FOLDER.iterdir()} - {"__pycache__"}
        self.assertEqual(names, {path.name for path in FILES})
        self.assertIn("__init__.py", names)

    def test_characters_and_sizes(self):
        for path in FILES:
            text = path.read_text(encoding="ascii")
            self.assertTrue(all(" " <= sign <= "~" or sign == "\n" for sign in text), path.name)
            rows = text.split("\n")
            self.assertLess(len(rows), 400, path.name)
            self.assertLessEqual(max(len(row) for row in rows), 120, path.name)

    def test_functions_are_small(self):
        for name, tree in self.each_tree():
            for one in nodes(tree, ast.FunctionDef):
                self.assertLessEqual(one.end_lineno - one.lineno + 1, 40, (name, one.name))

    def test_imports(self):
        for name, tree in self.each_tree():
            self.assertEqual(nodes(tree, ast.Import), [])
            for one in nodes(tree, ast.ImportFrom):
                self.assertEqual(one.level, 0)
                told = {alias.name for alias in one.names}
                self.assertTrue(one.module.startswith("anyfifth.") or told <= LIBRARY.get(one.module, set()), one.module)
                self.assertTrue(all(alias.asname is None for alias in one.names))

    def test_methods_and_decorators(self):
        for name, tree in self.each_tree():
            for one in nodes(tree, ast.FunctionDef):
                if one.name.startswith("__"):
                    self.assertIn(one.name[2:-2], METHODS, (name, one.name))
                for sign in one.decorator_list:
                    self.assertIn(ast.unparse(sign), DECORATORS | {one.name + ".setter"}, (name, one.name))
            for one in nodes(tree, ast.ClassDef):
                self.assertEqual(one.decorator_list, [])

    def test_no_statement_and_no_value_outside_the_language(self):
        # += is let in some places only; the package does without it.
        barred = (ast.AugAssign, ast.Global, ast.AsyncFunctionDef, ast.Await, ast.Div, ast.MatMult, ast.Set,
                  ast.SetComp, ast.AnnAssign, ast.Lambda, ast.GeneratorExp, ast.Try, ast.NamedExpr)
        for name, tree in self.each_tree():
            self.assertEqual(nodes(tree, *barred), [], name)
            for one in nodes(tree, ast.Constant):
                self.assertNotIsInstance(one.value, (float, complex))
            for text in spoken(tree):
                self.assertNotIn("\x25", text)

    def test_builtins(self):
        for name, tree in self.each_tree():
            used = {one.id for one in nodes(tree, ast.Name)} & set(dir(builtins))
            self.assertLessEqual(used, BUILTINS | DECORATORS, name)

    def test_nothing_is_sorted_or_chosen_by_an_own_order(self):
        # Beside a class with an order these take plain numbers and strings alone.
        for name, tree in self.each_tree():
            used = {one.id for one in nodes(tree, ast.Name)}
            self.assertEqual(used & {"min", "max"}, set(), name)
            for one in calls_of(tree, "sorted"):
                (row,), told = one.args, one.keywords
                self.assertEqual(told, [])
                self.assertIsInstance(row, ast.ListComp, name)
                self.assertIn(ast.unparse(row.elt)[:4], ("int(", "str("), name)

    def test_whole_rows_are_summed_and_asked(self):
        for name, tree in self.each_tree():
            for word in ("any", "all"):
                for one in calls_of(tree, word):
                    self.assertIsInstance(one.args[0], (ast.ListComp, ast.Name), name)

    def test_no_name_hides_a_class_or_an_import(self):
        for name, tree in self.each_tree():
            taken = {one.name for one in tree.body if isinstance(one, ast.ClassDef)}
            taken |= {alias.name for one in nodes(tree, ast.ImportFrom) for alias in one.names}
            bound = {one.arg for one in nodes(tree, ast.arg)}
            bound |= {one.id for one in nodes(tree, ast.Name) if isinstance(one.ctx, ast.Store)}
            self.assertEqual(taken & bound, set(), name)
            bound |= {one.name for one in nodes(tree, ast.ClassDef)}
            bound |= {one.name for one in tree.body if isinstance(one, ast.FunctionDef)}
            self.assertEqual(bound & set(dir(builtins)), set(), name)
            self.assertEqual(bound & {"register", "mro", "elements", "law", "version_info", "os", "gc"}, set(), name)

    def test_methods_of_builtin_values(self):
        own = set()
        for name, tree in self.each_tree():
            own |= {one.name for one in nodes(tree, ast.FunctionDef)}
        for name, tree in self.each_tree():
            for one in nodes(tree, ast.Call):
                if isinstance(one.func, ast.Attribute):
                    self.assertIn(one.func.attr, own | BUILTIN_METHODS | {"__init__"} | CALLED, name)

    def test_attributes_that_are_read_are_assigned(self):
        given, read = set(), set()
        for name, tree in self.each_tree():
            given |= {one.name for one in nodes(tree, ast.FunctionDef)}
            given |= {one.attr for one in nodes(tree, ast.Attribute) if isinstance(one.ctx, ast.Store)}
            for one in nodes(tree, ast.ClassDef):
                given |= {part.targets[0].id for part in one.body if isinstance(part, ast.Assign)}
            read |= {one.attr for one in nodes(tree, ast.Attribute) if isinstance(one.ctx, ast.Load)}
        self.assertLessEqual(read - given, BUILTIN_METHODS | {"setter"})

    def test_comparing_and_measuring_assigns_nothing(self):
        for name, tree in self.each_tree():
            for one in nodes(tree, ast.FunctionDef):
                if one.name in ("__eq__", "__str__", "__len__", "__lt__", "__le__", "__gt__", "__ge__", "__bool__"):
                    self.assertEqual(nodes(one, ast.Assign), [], (name, one.name))

    def test_barred_words(self):
        words = {"type", "typing", "enum", "Enum", "Flag", "Generic", "Protocol", "ABC", "namedtuple", "dataclass",
                 "overload", "contextmanager", "Meta", "metaclass", "_wall"}
        for path in FILES:
            found = set(re.findall("[A-Za-z_]+", path.read_text(encoding="ascii")))
            self.assertEqual(found & words, set(), path.name)

    def test_names_are_imported_from_where_they_are_defined_and_used(self):
        defined = {}
        for name, tree in self.each_tree():
            own = [one.name for one in tree.body if isinstance(one, (ast.ClassDef, ast.FunctionDef))]
            own = own + [target.id for one in tree.body if isinstance(one, ast.Assign) for target in one.targets]
            self.assertEqual(len(set(own)), len(own), name)
            defined["anyfifth." + name[:-3]] = own
        for name, tree in self.each_tree():
            used = {one.id for one in nodes(tree, ast.Name)}
            for one in nodes(tree, ast.ImportFrom):
                for alias in one.names:
                    self.assertIn(alias.name, used, name)
                    self.assertIn(alias.name, defined.get(one.module, LIBRARY.get(one.module)), name)

    def test_no_file_stands_on_itself(self):
        below = {}
        for name, tree in self.each_tree():
            below[name[:-3]] = {one.module[9:] for one in nodes(tree, ast.ImportFrom) if one.module[:9] == "anyfifth."}
        while below:
            free = [name for name, others in below.items() if not others & set(below)]
            self.assertNotEqual(free, [], below)
            below = {name: others for name, others in below.items() if name not in free}

    def test_names_of_methods_mean_one_thing(self):
        kinds, attributes = {}, set()
        for name, tree in self.each_tree():
            for one in nodes(tree, ast.FunctionDef):
                if not one.name.startswith("__"):
                    kinds.setdefault(one.name, set()).add(kind_of(one))
            attributes |= {one.attr for one in nodes(tree, ast.Attribute) if isinstance(one.ctx, ast.Store)}
        for name, found in kinds.items():
            self.assertEqual(len(found), 1, (name, found))
            self.assertNotIn(name, attributes - {"share"})
        self.assertEqual(kinds["share"], {"plain"})

    def test_the_init_of_a_base_that_the_class_names(self):
        for name, tree in self.each_tree():
            for one in nodes(tree, ast.ClassDef):
                bases = {ast.unparse(base) for base in one.bases}
                for call in nodes(one, ast.Call):
                    if isinstance(call.func, ast.Attribute) and call.func.attr == "__init__":
                        self.assertIn(ast.unparse(call.func.value), bases, (name, call.lineno))
                        self.assertEqual(ast.unparse(call.args[0]), "self", (name, call.lineno))

    def test_super_is_asked_for_plain_methods_alone(self):
        plain = set()
        for name, tree in self.each_tree():
            plain |= {one.name for one in nodes(tree, ast.FunctionDef) if kind_of(one) == "plain"}
        for name, tree in self.each_tree():
            asked = [one.func.value for one in nodes(tree, ast.Call) if isinstance(one.func, ast.Attribute)
                     and one.func.attr in plain and not one.func.attr.startswith("__")]
            for one in calls_of(tree, "super"):
                self.assertEqual(ast.unparse(one), "super()", (name, one.lineno))
                self.assertIn(one, asked, (name, one.lineno))

    def test_no_property_stands_behind_a_star(self):
        properties = set()
        for name, tree in self.each_tree():
            properties |= {one.name for one in nodes(tree, ast.FunctionDef) if kind_of(one) == "property"}
        self.assertIn("marks", properties)
        for name, tree in self.each_tree():
            for call in nodes(tree, ast.Call):
                for one in call.args:
                    if isinstance(one, ast.Starred):
                        self.check_star(one.value, properties, (name, call.lineno))

    def check_star(self, value, properties, place):
        """Behind the star of a call stands a name, or an attribute off a name that is no property."""
        if isinstance(value, ast.Attribute):
            self.assertNotIn(value.attr, properties, place)
            value = value.value
        self.assertIsInstance(value, ast.Name, place)

    def test_what_is_gone_over_has_its_iterator(self):
        for name, tree in self.each_tree():
            for one in nodes(tree, ast.ClassDef):
                methods = {part.name for part in one.body if isinstance(part, ast.FunctionDef)}
                self.assertLessEqual({"__iter__"} if "__getitem__" in methods else set(), methods)
                told = [part.name for part in one.body if isinstance(part, ast.FunctionDef) and not is_setter(part)]
                self.assertEqual(len(methods), len(told))

    def test_blocks_are_those_of_own_classes(self):
        blocks, classes = [], {}
        for name, tree in self.each_tree():
            blocks.extend(item for one in nodes(tree, ast.With) for item in one.items)
            classes.update({one.name: one for one in nodes(tree, ast.ClassDef)})
        for item in blocks:
            methods = {part.name: part for part in classes[item.context_expr.func.id].body
                       if isinstance(part, ast.FunctionDef)}
            self.assertIn("__enter__", methods)
            first, *rows = methods["__exit__"].body
            self.assertEqual(ast.unparse(first), "book = self._book")
            for row in rows:
                self.assertRegex(ast.unparse(row), r"^book\.(\w+) = self\.\1$")

    def test_tables_hold_functions_that_are_called_by_a_name(self):
        for name, tree in self.each_tree():
            self.assertEqual([one for one in nodes(tree, ast.Call) if isinstance(one.func, ast.Subscript)], [], name)


def calls_of(tree, name):
    """All calls of what has this name alone."""
    return [one for one in nodes(tree, ast.Call) if isinstance(one.func, ast.Name) and one.func.id == name]


def is_setter(function):
    """Whether a method sets a property."""
    return any(isinstance(sign, ast.Attribute) for sign in function.decorator_list)


def kind_of(function):
    """What a function or method is: by its decorator, a generator, or plain."""
    for sign in function.decorator_list:
        return sign.id if isinstance(sign, ast.Name) else "property"
    return "generator" if nodes(function, ast.Yield, ast.YieldFrom) else "plain"


if __name__ == "__main__":
    unittest.main()
