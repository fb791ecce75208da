"""The package keeps to the small part of Python that LANGUAGE.md tells; what can be seen in its text is asked here."""

import ast
import builtins
import pathlib
import re
import unittest

PACKAGE = pathlib.Path(__file__).resolve().parent.parent / "ringkeep"
FILES = sorted(PACKAGE.rglob("*.py"))
TREES = {file: ast.parse(file.read_text(encoding="utf-8")) for file in FILES}

OWN_NAMES = set(
    "len range enumerate zip min max sum abs sorted reversed int str bool list tuple dict set frozenset isinstance ord "
    "repr any all divmod Exception ValueError TypeError KeyError IndexError LookupError ZeroDivisionError "
    "ArithmeticError OverflowError RuntimeError NotImplementedError AttributeError StopIteration".split()
)
OWN_METHODS = set(
    "append clear copy count endswith extend find get index insert isalnum isalpha isdigit islower isspace isupper "
    "items join keys ljust lower lstrip partition pop remove replace reverse rfind rjust rpartition rsplit rstrip "
    "setdefault split splitlines startswith strip update upper values zfill bit_length".split()
)
STATEMENTS = (
    ast.Assign, ast.AugAssign, ast.If, ast.While, ast.For, ast.Return, ast.Break, ast.Continue, ast.Pass, ast.Raise,
    ast.Try, ast.Expr, ast.FunctionDef, ast.ClassDef, ast.ImportFrom,
)
EXPRESSIONS = (
    ast.Constant, ast.List, ast.Tuple, ast.Dict, ast.Set, ast.BinOp, ast.UnaryOp, ast.BoolOp, ast.Compare, ast.IfExp,
    ast.Call, ast.Attribute, ast.Subscript, ast.Slice, ast.ListComp, ast.JoinedStr, ast.FormattedValue, ast.Name,
    ast.Lambda,
)
NOT_NAMED = set(
    "register mro elements open input version_info with_traceback add_note attrgetter breakpoint builtins compile "
    "copyright credits delattr dir eval exec exit gc getattr globals hasattr help id importlib license locals "
    "methodcaller os quit setattr super type vars sys chr print".split()
)
NOT_WRITTEN = re.compile(
    r"\b(type|typing|typing_extensions|enum|Enum|IntEnum|StrEnum|Flag|IntFlag|Generic|Protocol|ABC|ABCMeta|namedtuple"
    r"|NamedTuple|TypedDict|TYPE_CHECKING|abstractmethod)\b|dataclass|overload|contextmanager"
)
TWO_UNDERSCORES = ("__init__", "__eq__", "__repr__", "__str__", "__len__")


def nodes(kind):
    return [(file, node) for file, tree in TREES.items() for node in ast.walk(tree) if isinstance(node, kind)]


def defined_names():
    return {node.name for _, node in nodes((ast.FunctionDef, ast.ClassDef))}


class Language(unittest.TestCase):
    def where(self, file, node):
        return f"{file.name}:{getattr(node, 'lineno', 0)}"

    def test_files(self):
        self.assertTrue(FILES)
        for thing in PACKAGE.rglob("*"):
            if "__pycache__" not in thing.parts:
                self.assertTrue(thing.is_file() and thing.suffix == ".py", thing)
                self.assertRegex(thing.stem, r"^(__init__|__main__|[a-z][a-z0-9_]*)$")
                self.assertNotIn(thing.stem, dir(builtins), thing)

    def test_size_and_signs(self):
        for file in FILES:
            text = file.read_text(encoding="utf-8")
            self.assertLessEqual(len(text.splitlines()), 400, file)
            self.assertNotRegex(text, r"[^\n -~]", file)
            self.assertIsNone(NOT_WRITTEN.search(text), file)
            for number, line in enumerate(text.split("\n"), start=1):
                self.assertLessEqual(len(line), 120, f"{file.name}:{number}")
        for file, node in nodes(ast.FunctionDef):
            self.assertLessEqual(node.end_lineno - node.lineno + 1, 40, self.where(file, node))

    def test_imports(self):
        for file, node in nodes((ast.Import, ast.ImportFrom)):
            self.assertIsInstance(node, ast.ImportFrom, self.where(file, node))
            self.assertEqual(node.level, 0)
            self.assertIn(node, TREES[file].body)
            source = PACKAGE / (node.module.removeprefix("ringkeep.") + ".py")
            self.assertIn(source, FILES, self.where(file, node))
            there = {part.name for part in TREES[source].body if isinstance(part, (ast.FunctionDef, ast.ClassDef))}
            there |= {part.targets[0].id for part in TREES[source].body if isinstance(part, ast.Assign)}
            for alias in node.names:
                self.assertIn(alias.name, there, self.where(file, node))

    def test_no_two_files_draw_from_one_another(self):
        draws = {file.stem: set() for file in FILES}
        for file, node in nodes(ast.ImportFrom):
            draws[file.stem].add(node.module.removeprefix("ringkeep."))
        while draws:
            free = [name for name, sources in draws.items() if not sources & set(draws)]
            self.assertTrue(free, draws)
            for name in free:
                draws.pop(name)

    def test_top_of_a_module(self):
        for file, tree in TREES.items():
            self.assertIsNotNone(ast.get_docstring(tree), file)
            bound = []
            for node in tree.body[1:]:
                self.assertIsInstance(node, (ast.ImportFrom, ast.FunctionDef, ast.ClassDef, ast.Assign), file)
                bound += [node.name] if isinstance(node, (ast.FunctionDef, ast.ClassDef)) else []
                bound += [target.id for target in node.targets] if isinstance(node, ast.Assign) else []
                bound += [alias.name for alias in node.names] if isinstance(node, ast.ImportFrom) else []
            self.assertEqual(len(bound), len(set(bound)), file)

    def test_functions_and_classes(self):
        for file, node in nodes((ast.FunctionDef, ast.Lambda)):
            given = node.args
            self.assertFalse(given.vararg or given.kwarg or given.kwonlyargs or given.posonlyargs)
            self.assertFalse(getattr(node, "decorator_list", []), self.where(file, node))
        for file, node in nodes(ast.ClassDef):
            self.assertIn(node, TREES[file].body)
            self.assertFalse(node.decorator_list or node.keywords or len(node.bases) > 1, self.where(file, node))
            for part in node.body:
                self.assertIsInstance(part, (ast.FunctionDef, ast.Pass), self.where(file, part))

    def test_statements(self):
        for file, node in nodes(ast.stmt):
            self.assertIsInstance(node, STATEMENTS, self.where(file, node))
            if isinstance(node, ast.Expr) and node is not TREES[file].body[0]:
                self.assertIsInstance(node.value, ast.Call, self.where(file, node))
            if isinstance(node, (ast.For, ast.While)):
                self.assertFalse(node.orelse, self.where(file, node))
            if isinstance(node, ast.Try):
                self.assertFalse(node.finalbody, self.where(file, node))
                for handler in node.handlers:
                    self.assertIsNotNone(handler.type, self.where(file, node))
            if isinstance(node, ast.Assign):
                self.assertEqual(len(node.targets), 1, self.where(file, node))
                self.assertNotIsInstance(node.targets[0], (ast.Tuple, ast.List), self.where(file, node))

    def test_expressions(self):
        for file, node in nodes(ast.expr):
            self.assertIsInstance(node, EXPRESSIONS, self.where(file, node))
            if isinstance(node, ast.Constant):
                self.assertIn(type(node.value), (int, str, bool, type(None)), self.where(file, node))
            if isinstance(node, ast.BinOp):
                self.assertNotIsInstance(node.op, (ast.Div, ast.MatMult), self.where(file, node))
            if isinstance(node, ast.BinOp) and isinstance(node.op, ast.Pow):
                self.assertIsInstance(node.right, ast.Constant, self.where(file, node))
            if isinstance(node, ast.ListComp):
                self.assertEqual(len(node.generators), 1, self.where(file, node))
                self.assertLessEqual(len(node.generators[0].ifs), 1, self.where(file, node))
            if isinstance(node, ast.FormattedValue):
                self.assertIsInstance(node.value, ast.Name, self.where(file, node))
                self.assertIsNone(node.format_spec, self.where(file, node))
            if isinstance(node, ast.Compare) and any(isinstance(op, (ast.Is, ast.IsNot)) for op in node.ops):
                self.assertIn(getattr(node.comparators[0], "value", 0), (None, True, False), self.where(file, node))
                self.assertIsInstance(node.comparators[0], ast.Constant, self.where(file, node))

    def test_names(self):
        for file, node in nodes((ast.Name, ast.arg, ast.FunctionDef, ast.ClassDef, ast.Attribute)):
            name = getattr(node, "id", None) or getattr(node, "arg", None) or getattr(node, "name", None)
            name = name or node.attr
            if name not in TWO_UNDERSCORES:
                self.assertRegex(name, r"^[A-Za-z][A-Za-z0-9_]*$", self.where(file, node))
            self.assertNotIn(name, NOT_NAMED, self.where(file, node))
            is_stored = isinstance(node, ast.Name) and isinstance(node.ctx, ast.Store)
            if is_stored or isinstance(node, (ast.arg, ast.ClassDef)) or node in TREES[file].body:
                self.assertNotIn(name, dir(builtins), self.where(file, node))
            elif isinstance(node, ast.Name) and name in dir(builtins):
                self.assertIn(name, OWN_NAMES, self.where(file, node))

    def test_no_local_is_called_like_a_class_or_an_import(self):
        for file, tree in TREES.items():
            taken = {node.name for node in tree.body if isinstance(node, ast.ClassDef)}
            taken |= {alias.name for node in tree.body if isinstance(node, ast.ImportFrom) for alias in node.names}
            for node in ast.walk(tree):
                if isinstance(node, ast.arg):
                    self.assertNotIn(node.arg, taken, self.where(file, node))
                if isinstance(node, ast.Name) and isinstance(node.ctx, ast.Store):
                    self.assertNotIn(node.id, taken, self.where(file, node))

    def test_values_of_objects(self):
        bodies = [part for _, node in nodes(ast.ClassDef) for part in node.body]
        methods = {part.name for part in bodies if isinstance(part, ast.FunctionDef)}
        taken = {name for kind in (str, int, list, dict, set, tuple, bytes) for name in dir(kind)}
        for file, node in nodes(ast.Attribute):
            if isinstance(node.ctx, ast.Store):
                self.assertNotIn(node.attr, methods, self.where(file, node))
                self.assertNotIn(node.attr, taken, self.where(file, node))
        for file, node in nodes(ast.ClassDef):
            names = [part.name for part in node.body if isinstance(part, ast.FunctionDef)]
            self.assertEqual(len(names), len(set(names)), self.where(file, node))
            for name in names:
                self.assertTrue(name not in taken or name in OWN_METHODS or name in TWO_UNDERSCORES, name)

    def test_walked_at_once(self):
        walkers = ("zip", "enumerate", "reversed", "range")
        kept = (ast.Assign, ast.Return)
        for file, node in nodes(kept):
            if isinstance(node.value, ast.Call):
                called = node.value.func
                self.assertNotIn(getattr(called, "id", ""), walkers + ("set",), self.where(file, node))
                self.assertNotIn(getattr(called, "attr", ""), ("items", "keys", "values"), self.where(file, node))

    def test_methods_called(self):
        own = defined_names()
        for file, node in nodes(ast.Call):
            if isinstance(node.func, ast.Attribute):
                self.assertIn(node.func.attr, OWN_METHODS | own | {"__init__"}, self.where(file, node))


if __name__ == "__main__":
    unittest.main()
