"""The package keeps to the part of Python that it is written in: what of that can be seen row by row."""

import ast
import pathlib
import re
import unittest

ROOT = pathlib.Path(__file__).resolve().parent.parent
PACKAGE = ROOT / "turnguard"
FILES = sorted(PACKAGE.rglob("*.py"))

WORDS_OUT = ("type typing typing_extensions enum Enum IntEnum StrEnum Flag IntFlag Generic Protocol ABC ABCMeta "
             "namedtuple NamedTuple TypedDict TYPE_CHECKING abstractmethod").split()
PARTS_OUT = ("dataclass", "overload", "contextmanager")
NAMES_OUT = "register mro elements open input version_info with_traceback add_note format format_map".split()
BUILT_IN = ("len range enumerate zip min max sum abs sorted reversed int str bool list tuple dict set frozenset "
            "isinstance ord repr any all divmod Exception ValueError TypeError KeyError IndexError LookupError "
            "ZeroDivisionError ArithmeticError OverflowError RuntimeError NotImplementedError AttributeError "
            "StopIteration").split()
METHODS = ("append clear copy count endswith extend find get index insert isalnum isalpha isdigit islower isspace "
           "isupper items join keys ljust lower lstrip partition pop remove replace reverse rfind rjust rpartition "
           "rsplit rstrip setdefault split splitlines startswith strip update upper values zfill bit_length "
           "__init__").split()
NODES_OUT = (ast.With, ast.Match, ast.Delete, ast.Global, ast.Nonlocal, ast.Assert, ast.Yield, ast.YieldFrom,
             ast.AsyncFunctionDef, ast.Await, ast.GeneratorExp, ast.SetComp, ast.DictComp, ast.NamedExpr, ast.Starred,
             ast.Div, ast.Import, ast.AnnAssign)


def bound(tree):
    """Every name that a file binds anywhere."""
    names = set()
    for node in ast.walk(tree):
        if isinstance(node, (ast.FunctionDef, ast.ClassDef)):
            names.add(node.name)
        elif isinstance(node, ast.arg):
            names.add(node.arg)
        elif isinstance(node, ast.alias):
            names.add(node.asname or node.name)
        elif isinstance(node, ast.Name) and isinstance(node.ctx, ast.Store):
            names.add(node.id)
        elif isinstance(node, ast.ExceptHandler) and node.name:
            names.add(node.name)
    return names


class Language(unittest.TestCase):
    def each(self, check):
        for path in FILES:
            text = path.read_text(encoding="utf-8")
            with self.subTest(file=path.name):
                check(text, ast.parse(text))

    def test_nothing_else_lies_in_the_package(self):
        names = [path.name for path in PACKAGE.iterdir() if path.name != "__pycache__"]
        self.assertIn("__init__.py", names)
        for name in names:
            self.assertRegex(name, r"\A[a-z0-9_]+\.py\Z")
            self.assertNotRegex(name, r"\Atest")

    def test_signs_words_and_size(self):
        def check(text, tree):
            self.assertNotRegex(text, r"[^\n -~]")
            self.assertLessEqual(len(text.splitlines()), 400)
            self.assertLessEqual(max(map(len, text.splitlines())), 120)
            self.assertEqual([word for word in re.findall(r"\w+", text) if word in WORDS_OUT], [])
            self.assertEqual([part for part in PARTS_OUT if part in text], [])

        self.each(check)

    def test_functions(self):
        def check(text, tree):
            for node in ast.walk(tree):
                if isinstance(node, ast.FunctionDef):
                    self.assertLessEqual(node.end_lineno - node.lineno + 1, 40, node.name)
                    self.assertEqual(node.decorator_list, [])
                    self.assertIsNone(node.args.vararg or node.args.kwarg)
                    self.assertEqual(node.args.kwonlyargs + node.args.posonlyargs, [])

        self.each(check)

    def test_statements_and_expressions(self):
        def check(text, tree):
            for node in ast.walk(tree):
                self.assertNotIsInstance(node, NODES_OUT)
                if isinstance(node, (ast.For, ast.While)):
                    self.assertEqual(node.orelse, [])
                if isinstance(node, ast.Try):
                    self.assertEqual(node.finalbody, [])
                if isinstance(node, ast.Assign):
                    self.assertEqual(len(node.targets), 1)
                if isinstance(node, ast.ListComp):
                    self.assertEqual(len(node.generators), 1)
                    self.assertLessEqual(len(node.generators[0].ifs), 1)
                if isinstance(node, ast.Constant):
                    self.assertIn(type(node.value), (int, str, bool, type(None)))
                if isinstance(node, ast.Constant) and isinstance(node.value, str):
                    self.assertNotIn("%", node.value)

        self.each(check)

    def test_imports_are_the_packages_own(self):
        def check(text, tree):
            for node in ast.walk(tree):
                if isinstance(node, ast.ImportFrom):
                    self.assertEqual(node.level, 0)
                    self.assertRegex(node.module, r"\Aturnguard\.[a-z_]+\Z")
                    self.assertIn(node, tree.body)

        self.each(check)

    def test_names(self):
        def check(text, tree):
            own = bound(tree)
            self.assertEqual(own & set(BUILT_IN), set())
            self.assertEqual(own & set(NAMES_OUT), set())
            self.assertEqual([name for name in own if name.startswith("_") and name != "__init__"], [])
            for node in ast.walk(tree):
                if isinstance(node, ast.Name) and isinstance(node.ctx, ast.Load):
                    self.assertIn(node.id, own | set(BUILT_IN))

        self.each(check)

    def test_names_that_stand_for_something_else(self):
        def check(text, tree):
            taken = set()
            for node in tree.body:
                if isinstance(node, ast.ImportFrom):
                    taken |= {alias.name for alias in node.names}
                if isinstance(node, ast.ClassDef):
                    taken.add(node.name)
            for node in ast.walk(tree):
                if isinstance(node, ast.arg):
                    self.assertNotIn(node.arg, taken)
                if isinstance(node, ast.Name) and isinstance(node.ctx, ast.Store):
                    self.assertNotIn(node.id, taken)

        self.each(check)

    def test_no_name_is_a_method_here_and_a_value_there(self):
        methods, values = set(), set()

        def gather(text, tree):
            for node in ast.walk(tree):
                if isinstance(node, ast.ClassDef):
                    own = [part.name for part in node.body if isinstance(part, ast.FunctionDef)]
                    self.assertEqual(len(own), len(set(own)))
                    methods.update(own)
                if isinstance(node, ast.Attribute) and isinstance(node.ctx, ast.Store):
                    values.add(node.attr)

        self.each(gather)
        self.assertEqual(methods & values, set())

    def test_methods(self):
        def check(text, tree):
            own = bound(tree)
            for node in ast.walk(tree):
                if isinstance(node, ast.Call) and isinstance(node.func, ast.Attribute):
                    self.assertIn(node.func.attr, own | set(METHODS))
                if isinstance(node, ast.Attribute):
                    self.assertNotIn(node.attr, NAMES_OUT)

        self.each(check)

    def test_what_is_walked_is_not_kept(self):
        def check(text, tree):
            for node in ast.walk(tree):
                if isinstance(node, (ast.Assign, ast.Return)) and isinstance(node.value, ast.Call):
                    called = node.value.func
                    name = called.id if isinstance(called, ast.Name) else getattr(called, "attr", "")
                    self.assertNotIn(name, ("zip", "enumerate", "reversed", "range", "items", "keys", "values"))

        self.each(check)

    def test_is_stands_beside_none_and_truths(self):
        def check(text, tree):
            for node in ast.walk(tree):
                if isinstance(node, ast.Compare) and isinstance(node.ops[0], (ast.Is, ast.IsNot)):
                    self.assertIsInstance(node.comparators[0], ast.Constant)
                    self.assertIn(type(node.comparators[0].value), (bool, type(None)))

        self.each(check)

    def test_the_top_of_a_file(self):
        def check(text, tree):
            self.assertIsNotNone(ast.get_docstring(tree))
            for node in tree.body[1:]:
                self.assertIsInstance(node, (ast.ImportFrom, ast.FunctionDef, ast.ClassDef, ast.Assign))
                if isinstance(node, ast.Assign):
                    ast.literal_eval(node.value)

        self.each(check)


if __name__ == "__main__":
    unittest.main()
