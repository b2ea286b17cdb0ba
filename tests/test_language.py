"""Holds the package's files against the part of Python that the program keeps to.

So no clock, chance or file can come in: nothing but the package's own modules is
imported, and no built-in name is used but the listed ones.
"""

import ast
import builtins
import pathlib
import re
import unittest

PACKAGE = pathlib.Path(__file__).resolve().parent.parent / "jughouse"
FILES = sorted(PACKAGE.glob("*.py"))

BUILT_IN = set(
    "len range enumerate zip min max sum abs sorted reversed int str bool list tuple dict set frozenset "
    "isinstance ord repr any all divmod Exception ValueError TypeError KeyError IndexError LookupError "
    "ZeroDivisionError ArithmeticError OverflowError RuntimeError NotImplementedError AttributeError "
    "StopIteration".split()
)

OWN_METHODS_OF_PYTHON = set(
    "append clear copy count endswith extend find get index insert isalnum isalpha isdigit islower isspace "
    "isupper items join keys ljust lower lstrip partition pop remove replace reverse rfind rjust rpartition "
    "rsplit rstrip setdefault split splitlines startswith strip update upper values zfill bit_length".split()
)

TWO_UNDERSCORES = {"__init__", "__eq__", "__repr__", "__str__", "__len__"}

NOT_WRITTEN = re.compile(
    r"\b(type|typing|typing_extensions|enum|Enum|IntEnum|StrEnum|Flag|IntFlag|Generic|Protocol|ABC|ABCMeta|"
    r"namedtuple|NamedTuple|TypedDict|TYPE_CHECKING|abstractmethod)\b|dataclass|overload|contextmanager"
)

NODES = (
    ast.Module, ast.ImportFrom, ast.alias, ast.FunctionDef, ast.ClassDef, ast.arguments, ast.arg, ast.Lambda,
    ast.Assign, ast.AugAssign, ast.If, ast.While, ast.For, ast.Return, ast.Break, ast.Continue, ast.Pass, ast.Raise,
    ast.Try, ast.ExceptHandler, ast.Expr, ast.Constant, ast.List, ast.Tuple, ast.Dict, ast.Set, ast.BinOp, ast.UnaryOp,
    ast.BoolOp, ast.Compare, ast.IfExp, ast.Call, ast.keyword, ast.Attribute, ast.Subscript, ast.Slice, ast.ListComp,
    ast.comprehension, ast.JoinedStr, ast.FormattedValue, ast.Name, ast.expr_context, ast.operator, ast.unaryop,
    ast.boolop, ast.cmpop,
)


def python_has(name):
    return any(hasattr(kind, name) for kind in [str, int, list, dict, set, bytes, tuple])


class Language(unittest.TestCase):
    def each_node(self):
        for file in FILES:
            for node in ast.walk(ast.parse(file.read_text("utf-8"))):
                yield f"{file.name}:{getattr(node, 'lineno', '')}", node

    def test_the_package_is_there(self):
        self.assertIn("__init__.py", [file.name for file in FILES])
        others = [path.name for path in PACKAGE.iterdir() if path.name != "__pycache__" and path not in FILES]
        self.assertEqual(others, [])

    def test_signs_lines_and_words(self):
        for file in FILES:
            lines = file.read_text("utf-8").split("\n")
            self.assertLessEqual(len(lines), 400, file.name)
            for number, line in enumerate(lines, start=1):
                with self.subTest(f"{file.name}:{number}"):
                    self.assertLessEqual(len(line), 120)
                    self.assertTrue(all(" " <= sign <= "~" for sign in line))
                    self.assertIsNone(NOT_WRITTEN.search(line))

    def test_only_the_packages_own_modules_are_imported(self):
        for place, node in self.each_node():
            with self.subTest(place):
                self.assertNotIsInstance(node, ast.Import)
                if isinstance(node, ast.ImportFrom):
                    self.assertEqual(node.level, 0)
                    self.assertTrue(node.module.startswith("jughouse."))

    def test_only_the_listed_forms(self):
        for place, node in self.each_node():
            with self.subTest(place):
                self.assertIsInstance(node, NODES)
                self.assertNotIsInstance(node, (ast.Div, ast.MatMult, ast.Starred))
                self.assertFalse(getattr(node, "decorator_list", []))
                if isinstance(node, ast.Constant):
                    self.assertNotIsInstance(node.value, (float, complex, bytes))
                if isinstance(node, (ast.For, ast.While)):
                    self.assertEqual(node.orelse, [])

    def test_only_the_listed_built_in_names(self):
        for place, node in self.each_node():
            with self.subTest(place):
                if isinstance(node, ast.Name) and hasattr(builtins, node.id):
                    self.assertIn(node.id, BUILT_IN)
                    self.assertIsInstance(node.ctx, ast.Load)
                if isinstance(node, ast.arg):
                    self.assertFalse(hasattr(builtins, node.arg))
                if isinstance(node, ast.Attribute) and python_has(node.attr):
                    self.assertIn(node.attr, OWN_METHODS_OF_PYTHON | {"__init__"})

    def test_plain_names(self):
        for place, node in self.each_node():
            name = getattr(node, "id", None) or getattr(node, "attr", None) or getattr(node, "arg", None) \
                or getattr(node, "name", None)
            if isinstance(name, str):
                with self.subTest(place):
                    self.assertTrue(name in TWO_UNDERSCORES or not name.startswith("_"))

    def test_small_functions(self):
        for place, node in self.each_node():
            if isinstance(node, ast.FunctionDef):
                with self.subTest(place):
                    self.assertLessEqual(node.end_lineno - node.lineno + 1, 40)
                    self.assertIsNone(node.args.vararg)
                    self.assertIsNone(node.args.kwarg)
                    self.assertEqual(node.args.kwonlyargs, [])

    def test_one_target_and_one_walk(self):
        for place, node in self.each_node():
            with self.subTest(place):
                if isinstance(node, ast.Assign):
                    self.assertEqual(len(node.targets), 1)
                    self.assertIsInstance(node.targets[0], (ast.Name, ast.Attribute, ast.Subscript))
                if isinstance(node, ast.ListComp):
                    self.assertEqual(len(node.generators), 1)
                    self.assertLessEqual(len(node.generators[0].ifs), 1)

    def test_no_local_is_called_like_a_class_or_an_import(self):
        for file in FILES:
            nodes = list(ast.walk(ast.parse(file.read_text("utf-8"))))
            taken = {node.name for node in nodes if isinstance(node, (ast.ClassDef, ast.alias))}
            given = {node.id for node in nodes if isinstance(node, ast.Name) and isinstance(node.ctx, ast.Store)}
            given.update(node.arg for node in nodes if isinstance(node, ast.arg))
            self.assertEqual(taken & given, set(), file.name)

    def test_no_two_files_draw_from_one_another(self):
        drawn = {}
        for file in FILES:
            nodes = ast.walk(ast.parse(file.read_text("utf-8")))
            drawn[f"jughouse.{file.stem}"] = {node.module for node in nodes if isinstance(node, ast.ImportFrom)}
        while drawn:
            ready = {name for name in drawn if not drawn[name] & drawn.keys()}
            self.assertTrue(ready, drawn)
            drawn = {name: drawn[name] for name in drawn if name not in ready}

    def test_no_name_is_a_method_here_and_a_value_there(self):
        methods, given = set(), set()
        for place, node in self.each_node():
            if isinstance(node, ast.ClassDef):
                methods.update(part.name for part in node.body if isinstance(part, ast.FunctionDef))
            if isinstance(node, ast.Attribute) and isinstance(node.ctx, ast.Store):
                given.add(node.attr)
        self.assertEqual(methods & given, set())


if __name__ == "__main__":
    unittest.main()
