"""The files of the package keep to the subset of the language, as far as a simple look at them can tell."""

import ast
import builtins
import inspect
import pathlib
import unittest

import sumsaid.book
import sumsaid.errors
import sumsaid.functions
import sumsaid.notation
import sumsaid.patterns
import sumsaid.sayings
import sumsaid.shapes

PACKAGE = pathlib.Path(sumsaid.errors.__file__).parent
ALLOWED = set("""len range enumerate zip min max sum abs sorted reversed int str bool list tuple dict set isinstance ord
    repr any all divmod ValueError""".split())
METHODS = set("""append clear copy count endswith extend find get index insert items join keys pop remove replace reverse
    setdefault split startswith strip update values zfill bit_length add discard""".split())
LIBRARY = {"math": {"gcd", "lcm"}}
BARRED = set("""register mro elements open input law version_info type typing enum compile copyright credits dir eval exec
    exit gc globals help id license locals os quit vars map filter iter next format object print hash""".split())
NODES = (ast.Lambda, ast.Yield, ast.YieldFrom, ast.Global, ast.Nonlocal, ast.With, ast.Try, ast.AsyncFunctionDef,
         ast.Await, ast.Div, ast.Pow, ast.Starred, ast.NamedExpr, ast.Match, ast.Import, ast.AnnAssign, ast.Delete)


def files():
    return sorted(PACKAGE.glob("*.py"))


def trees():
    return [(path, ast.parse(path.read_text())) for path in files()]


def is_plain_value(node):
    """Whether a value at module level is a literal, or a dict of literals."""
    if isinstance(node, ast.Dict):
        return all(isinstance(part, ast.Constant) for part in node.keys + node.values)
    return isinstance(node, ast.Constant)


def names_bound(function):
    """The names that a function binds: parameters, targets, loops."""
    names = {argument.arg for argument in function.args.args}
    for node in ast.walk(function):
        if isinstance(node, ast.Name) and isinstance(node.ctx, ast.Store):
            names.add(node.id)
    return names


class Files(unittest.TestCase):
    def test_only_files_with_plain_names(self):
        for path in PACKAGE.iterdir():
            if path.name != "__pycache__":
                self.assertRegex(path.name, r"^[a-z_]+\.py$")

    def test_sizes_and_characters(self):
        for path in files():
            text = path.read_text()
            lines = text.split("\n")
            self.assertLessEqual(len(lines), 399, path.name)
            self.assertTrue(all(" " <= sign <= "~" or sign == "\n" for sign in text), path.name)
            self.assertTrue(text.endswith("\n") and not text.endswith("\n\n"), path.name)
            for line in lines:
                self.assertLessEqual(len(line), 120, (path.name, line))
                self.assertEqual(line, line.rstrip(), path.name)


class Code(unittest.TestCase):
    def test_what_stands_at_module_level(self):
        for path, tree in trees():
            for k, node in enumerate(tree.body):
                if isinstance(node, ast.Expr):
                    self.assertEqual(k, 0, path.name)
                    self.assertIsInstance(node.value, ast.Constant)
                elif isinstance(node, ast.Assign):
                    self.assertTrue(is_plain_value(node.value), (path.name, node.lineno))
                else:
                    self.assertIsInstance(node, (ast.ImportFrom, ast.FunctionDef, ast.ClassDef), path.name)
            self.assertIsNotNone(ast.get_docstring(tree), path.name)

    def test_kinds_of_statements(self):
        for path, tree in trees():
            for node in ast.walk(tree):
                if isinstance(node, ast.Delete):
                    self.assertTrue(all(isinstance(target, ast.Subscript) for target in node.targets), path.name)
                else:
                    self.assertNotIsInstance(node, NODES, (path.name, getattr(node, "lineno", 0)))
                if isinstance(node, ast.Constant):
                    self.assertNotIsInstance(node.value, (float, complex), path.name)
                    if isinstance(node.value, str):
                        self.assertNotIn("%", node.value, path.name)

    def test_functions(self):
        for path, tree in trees():
            for node in ast.walk(tree):
                if isinstance(node, ast.FunctionDef):
                    self.assertLessEqual(node.end_lineno - node.lineno + 1, 40, (path.name, node.name))
                    self.assertEqual(node.decorator_list, [])
                    self.assertIsNone(node.returns)
                    if not node.name.startswith("__"):
                        self.assertIsNotNone(ast.get_docstring(node), (path.name, node.name))
                    inner = [part for part in ast.walk(node) if isinstance(part, ast.FunctionDef) and part is not node]
                    self.assertEqual(inner, [], (path.name, node.name))

    def test_names(self):
        for path, tree in trees():
            taken = set()
            for node in tree.body:
                if isinstance(node, ast.ImportFrom):
                    taken |= {alias.name for alias in node.names}
                elif isinstance(node, (ast.ClassDef, ast.FunctionDef)):
                    taken.add(node.name)
            for node in ast.walk(tree):
                if isinstance(node, ast.FunctionDef):
                    bound = names_bound(node)
                    self.assertEqual(bound & taken, set(), (path.name, node.name))
                    self.assertEqual(bound & set(dir(builtins)), set(), (path.name, node.name))
                    self.assertEqual(bound & BARRED, set(), (path.name, node.name))
                if isinstance(node, ast.Name) and node.id in dir(builtins):
                    self.assertIn(node.id, ALLOWED, (path.name, node.lineno))
                if isinstance(node, ast.Attribute):
                    self.assertNotIn(node.attr, BARRED, (path.name, node.lineno))

    def test_methods(self):
        own = set()
        attributes = set()
        for _, tree in trees():
            for node in ast.walk(tree):
                if isinstance(node, ast.ClassDef):
                    own |= {part.name for part in node.body if isinstance(part, ast.FunctionDef)}
                if isinstance(node, ast.Attribute) and isinstance(node.ctx, ast.Store):
                    attributes.add(node.attr)
        self.assertEqual(own & attributes, set())
        builtin = set()
        for kind in (str, int, list, dict, set, bytes, tuple):
            builtin |= {name for name in dir(kind) if not name.startswith("_")}
        self.assertEqual((own | attributes) & builtin, set())
        for path, tree in trees():
            for node in ast.walk(tree):
                if isinstance(node, ast.Call) and isinstance(node.func, ast.Attribute):
                    name = node.func.attr
                    self.assertTrue(name in own | METHODS | {"__init__"}, (path.name, node.lineno, name))
                    self.assertEqual(node.keywords, [], (path.name, node.lineno))

    def test_imports(self):
        imported = {}
        for path, tree in trees():
            used = {node.id for node in ast.walk(tree) if isinstance(node, ast.Name)}
            imported[path.stem] = []
            for node in ast.walk(tree):
                if isinstance(node, ast.ImportFrom):
                    self.assertIn(node, tree.body, path.name)
                    self.assertEqual(node.level, 0)
                    names = {alias.name for alias in node.names}
                    self.assertTrue(all(alias.asname is None for alias in node.names))
                    self.assertLessEqual(names, used, path.name)
                    if node.module in LIBRARY:
                        self.assertLessEqual(names, LIBRARY[node.module])
                        continue
                    package, file = node.module.split(".")
                    self.assertEqual(package, "sumsaid")
                    self.assertLessEqual(names, defined_in(file), path.name)
                    imported[path.stem].append(file)
        done = []
        while len(done) < len(imported):
            ready = [name for name in imported if name not in done and all(other in done for other in imported[name])]
            self.assertTrue(ready, "files import from each other")
            done.extend(ready)

    def test_sets_are_not_iterated(self):
        for path, tree in trees():
            for node in ast.walk(tree):
                if isinstance(node, (ast.For, ast.comprehension)):
                    self.assertNotIsInstance(node.iter, (ast.Set, ast.SetComp))
                    if isinstance(node.iter, ast.Call):
                        self.assertNotEqual(getattr(node.iter.func, "id", ""), "set", path.name)


def defined_in(file):
    """The names that a file of the package defines."""
    names = set()
    for node in ast.parse((PACKAGE / (file + ".py")).read_text()).body:
        if isinstance(node, (ast.FunctionDef, ast.ClassDef)):
            names.add(node.name)
        elif isinstance(node, ast.Assign):
            names |= {target.id for target in node.targets}
    return names


class Interface(unittest.TestCase):
    def test_functions_stand_where_they_are_listed(self):
        listed = {
            sumsaid.sayings: {"is_saying": 1, "is_plain": 1, "says": 2, "decide": 1, "plain": 2},
            sumsaid.functions: {"least_from": 3, "greatest_to": 3, "lowest": 2, "highest": 2, "best_sum": 4, "value": 2,
                                "graph": 2, "domain": 2, "restricted": 3, "either": 2, "inverse": 2, "composed": 3,
                                "some_values": 2, "parting": 3, "judge": 4},
            sumsaid.shapes: {"shape_of": 1, "value_at": 2, "is_rising": 1, "image": 1},
            sumsaid.notation: {"format_saying": 1, "parse_saying": 1},
            sumsaid.patterns: {"pattern_of": 2, "is_in": 2, "beside": 1, "union": 2, "meet": 2, "moved": 3,
                               "next_from": 2, "next_to": 2, "nearest": 2, "count_in": 3},
        }
        for module, functions in listed.items():
            for name, many in functions.items():
                function = getattr(module, name)
                self.assertEqual(function.__module__, module.__name__)
                self.assertEqual(len(inspect.signature(function).parameters), many, name)

    def test_the_book_has_its_methods_itself(self):
        methods = {"keep": 4, "drop": 2, "undo": 1, "redo": 1, "names": 1, "saying": 2, "least": 4, "solutions": 3,
                   "made": 1}
        for name, many in methods.items():
            self.assertEqual(len(inspect.signature(vars(sumsaid.book.Book)[name]).parameters), many, name)
        self.assertEqual(sumsaid.book.Book.__module__, "sumsaid.book")

    def test_errors_stand_where_they_are_listed(self):
        for name in ("SumsaidError", "TooLarge", "InvalidWord", "UnknownName", "NotFitting"):
            self.assertEqual(getattr(sumsaid.errors, name).__module__, "sumsaid.errors")


if __name__ == "__main__":
    unittest.main()
