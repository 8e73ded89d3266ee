"""Of ../shared/LANGUAGE.md what can be seen by its files' lines, words and imports alone."""

import ast
import builtins
import re
import unittest
from pathlib import Path

PACKAGE = Path(__file__).resolve().parent.parent / "toolroad"
LIBRARY = {
    "heapq": {"heappush", "heappop", "heapify", "heapreplace", "heappushpop"},
    "math": {"gcd", "lcm", "isqrt", "comb", "perm", "factorial"},
    "itertools": {"product", "combinations", "permutations", "chain", "accumulate", "pairwise", "islice",
                  "zip_longest"},
    "collections": {"defaultdict"},
}
BARRED = {
    "type", "typing", "typing_extensions", "enum", "Enum", "IntEnum", "StrEnum", "Flag", "IntFlag", "Generic",
    "Protocol", "ABC", "ABCMeta", "namedtuple", "NamedTuple", "TypedDict", "TYPE_CHECKING", "abstractmethod",
    "register", "mro", "elements", "open", "input", "law", "version_info", "with_traceback", "add_note",
}

BUILTINS = {
    "len", "range", "enumerate", "zip", "min", "max", "sum", "abs", "sorted", "reversed", "int", "str", "bool", "list",
    "tuple", "dict", "set", "isinstance", "ord", "repr", "any", "all", "divmod", "pow", "iter", "next", "map",
    "getattr", "hasattr", "setattr", "super", "property", "staticmethod", "classmethod", "NotImplemented", "Exception",
    "ValueError", "TypeError", "KeyError", "IndexError", "LookupError", "ZeroDivisionError", "ArithmeticError",
    "OverflowError", "RuntimeError", "NotImplementedError", "AttributeError", "StopIteration",
}


def files():
    return sorted(path for path in PACKAGE.rglob("*") if "__pycache__" not in path.parts)


def nodes():
    """Each file's name with each node of its tree."""
    trees = [(path.name, ast.parse(path.read_text(encoding="ascii"))) for path in files()]
    return [(name, node) for name, tree in trees for node in ast.walk(tree)]


def is_library(node):
    names = {name.name for name in node.names}
    return names <= LIBRARY.get(node.module, set()) and all(name.asname is None for name in node.names)


def is_plain(node):
    """Whether a name, an attribute off a name, a literal, or a list, tuple or dict of these."""
    if isinstance(node, (ast.List, ast.Tuple)):
        return all(map(is_plain, node.elts))
    if isinstance(node, ast.Dict):
        return all(map(is_plain, [*node.keys, *node.values]))
    if isinstance(node, ast.Attribute):
        return isinstance(node.value, ast.Name)
    return isinstance(node, (ast.Name, ast.Constant))


def behind_stars(call):
    """What stands in a call from its first star on, and all of it beside a double star."""
    passed = [*call.args, *[word.value for word in call.keywords]]
    starred = [k for k, part in enumerate(call.args) if isinstance(part, ast.Starred)]
    if any(word.arg is None for word in call.keywords):
        starred = [0]
    behind = passed[starred[0]:] if starred else []
    return [part.value if isinstance(part, ast.Starred) else part for part in behind]


class LanguageTest(unittest.TestCase):
    def test_files(self):
        self.assertTrue((PACKAGE / "__init__.py").is_file())
        for path in files():
            with self.subTest(path.name):
                self.assertRegex(path.name, r"^[a-z0-9_]+\.py$")
                self.assertEqual(path.parent, PACKAGE)

    def test_characters_and_sizes(self):
        for path in files():
            text = path.read_text(encoding="ascii")
            with self.subTest(path.name):
                self.assertRegex(text, r"\A[ -~\n]*\Z")
                self.assertLess(len(text.split("\n")), 400)
                self.assertLessEqual(max(map(len, text.split("\n"))), 120)

    def test_functions_are_small(self):
        for file, node in nodes():
            if isinstance(node, ast.FunctionDef):
                with self.subTest(file=file, function=node.name):
                    self.assertLessEqual(node.end_lineno - node.lineno + 1, 40)

    def test_imports(self):
        for file, node in nodes():
            if isinstance(node, (ast.Import, ast.ImportFrom)):
                with self.subTest(file=file, line=node.lineno):
                    self.assertEqual(node.col_offset, 0)
                    self.assertIsInstance(node, ast.ImportFrom)
                    self.assertEqual(node.level, 0)
                    self.assertTrue(node.module.startswith("toolroad.") or is_library(node))

    def test_no_floats(self):
        for file, node in nodes():
            with self.subTest(file=file, line=getattr(node, "lineno", 0)):
                self.assertNotIsInstance(node, ast.Div)
                self.assertNotIsInstance(getattr(node, "value", None), (float, complex))

    def test_builtins(self):
        for file, node in nodes():
            if isinstance(node, ast.Name) and hasattr(builtins, node.id):
                with self.subTest(file=file, line=node.lineno, name=node.id):
                    self.assertIsInstance(node.ctx, ast.Load)
                    self.assertIn(node.id, BUILTINS)
            if isinstance(node, (ast.FunctionDef, ast.ClassDef)) and not node.name.startswith("__"):
                self.assertFalse(hasattr(builtins, node.name), node.name)
            if isinstance(node, ast.arg):
                self.assertFalse(hasattr(builtins, node.arg), node.arg)

    def test_calls_with_stars(self):
        for file, node in nodes():
            if isinstance(node, ast.Call):
                for part in behind_stars(node):
                    with self.subTest(file=file, line=part.lineno):
                        self.assertTrue(is_plain(part), ast.unparse(part))

    def test_what_stands_behind_stars(self):
        for row, plain in [
            ("f(*xs)", True), ("f(k, *self.xs)", True), ("f(g(k), *xs)", True), ("f(*[1, k], n)", True),
            ("f(*(xs, {1: k}), sep=n)", True), ("f(**d)", True), ("f(xs[0], k=g(k))", True),
            ("f(*xs[0])", False), ("f(*self.xs[-1])", False), ("f(*xs[1:])", False), ("f(*g(k))", False),
            ("f(*xs, ys[0])", False), ("f(*xs, sep=g(k))", False), ("f(*[xs[0]])", False), ("f(*a.b.c)", False),
            ("f(**d[0])", False), ("f(g(k), **d)", False), ("f(*xs + ys)", False),
        ]:
            with self.subTest(row):
                call = ast.parse(row).body[0].value
                self.assertEqual(all(map(is_plain, behind_stars(call))), plain)

    def test_lists_instead_of_generator_expressions(self):
        # A class has == of its own: any, all and the like take a list.
        for file, node in nodes():
            with self.subTest(file=file, line=getattr(node, "lineno", 0)):
                self.assertNotIsInstance(node, ast.GeneratorExp)

    def test_imports_are_not_named_anew(self):
        for path in files():
            tree = ast.parse(path.read_text(encoding="ascii"))
            imports = {name.name for node in tree.body if isinstance(node, ast.ImportFrom) for name in node.names}
            for node in ast.walk(tree):
                with self.subTest(file=path.name, line=getattr(node, "lineno", 0)):
                    if isinstance(node, ast.arg):
                        self.assertNotIn(node.arg, imports)
                    if isinstance(node, ast.Name) and not isinstance(node.ctx, ast.Load):
                        self.assertNotIn(node.id, imports)

    def test_no_name_is_a_method_and_an_attribute(self):
        for file, node in nodes():
            if isinstance(node, ast.ClassDef):
                methods = {part.name for part in node.body if isinstance(part, ast.FunctionDef)}
                stored = {part.attr for part in ast.walk(node)
                          if isinstance(part, ast.Attribute) and isinstance(part.ctx, ast.Store)}
                with self.subTest(file=file, name=node.name):
                    self.assertEqual(methods & stored, set())

    def test_attributes_that_are_read_are_assigned(self):
        every = nodes()
        attributes = [(file, node) for file, node in every if isinstance(node, ast.Attribute)]
        stored = {node.attr for _, node in attributes if isinstance(node.ctx, ast.Store)}
        called = [node.func for _, node in every if isinstance(node, ast.Call)]
        for file, node in attributes:
            if isinstance(node.ctx, ast.Load) and node not in called:
                with self.subTest(file=file, line=node.lineno, name=node.attr):
                    self.assertIn(node.attr, stored)

    def test_words_that_are_not_used(self):
        for path in files():
            with self.subTest(path.name):
                tree = without_docstrings(ast.parse(path.read_text(encoding="ascii")))
                used = set(re.findall(r"\w+", ast.unparse(tree)))
                self.assertEqual(used & BARRED, set())


def without_docstrings(tree):
    for node in ast.walk(tree):
        if isinstance(node, (ast.Module, ast.ClassDef, ast.FunctionDef)) and ast.get_docstring(node) is not None:
            node.body[0] = ast.Pass()
    return ast.fix_missing_locations(tree)


if __name__ == "__main__":
    unittest.main()
