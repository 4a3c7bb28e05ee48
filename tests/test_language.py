"""The package keeps to the small part of Python that it is written in, as far as its form shows it."""

import ast
import builtins
import re
import unittest
from pathlib import Path

PACKAGE = Path(__file__).resolve().parent.parent / "channelnet"
STATEMENTS = (
    ast.Assign, ast.AugAssign, ast.If, ast.While, ast.For, ast.Return, ast.Break, ast.Continue, ast.Pass, ast.Raise,
    ast.Try, ast.ExceptHandler, ast.Expr, ast.FunctionDef, ast.ClassDef, ast.ImportFrom, ast.Module,
)
EXPRESSIONS = (
    ast.Constant, ast.List, ast.Tuple, ast.Dict, ast.BinOp, ast.UnaryOp, ast.BoolOp, ast.Compare, ast.IfExp, ast.Call,
    ast.Attribute, ast.Subscript, ast.Slice, ast.ListComp, ast.Lambda, ast.Name,
)
OTHERS = (
    ast.expr_context, ast.operator, ast.unaryop, ast.boolop, ast.cmpop, ast.comprehension, ast.arguments, ast.arg,
    ast.alias, ast.keyword,
)
OWN = (
    "len range enumerate zip min max sum abs sorted reversed int str bool list tuple dict set frozenset isinstance ord "
    "repr any all divmod Exception ValueError TypeError KeyError IndexError LookupError ZeroDivisionError "
    "ArithmeticError OverflowError RuntimeError NotImplementedError StopIteration"
).split()
METHODS = (
    "append clear copy count endswith extend find get index insert isalnum isalpha isdigit islower isspace isupper "
    "items join keys ljust lower lstrip partition pop remove replace reverse rfind rjust rpartition rsplit rstrip "
    "setdefault split splitlines startswith strip update upper values zfill bit_length"
).split()
BANNED = (
    "type typing typing_extensions enum Enum IntEnum StrEnum Flag IntFlag Generic Protocol ABC ABCMeta namedtuple "
    "NamedTuple TypedDict TYPE_CHECKING abstractmethod"
).split()
UNUSED = (
    "register mro elements open input version_info with_traceback add_note attrgetter breakpoint builtins compile "
    "copyright credits delattr dir eval exec exit gc getattr globals hasattr help id importlib license locals "
    "methodcaller os quit setattr super type vars sys chr"
).split()


def files():
    return sorted(PACKAGE.glob("*.py"))


def bound_at_top(tree):
    names = []
    for node in tree.body:
        if isinstance(node, ast.ImportFrom):
            names.extend([alias.asname or alias.name for alias in node.names])
        elif isinstance(node, (ast.FunctionDef, ast.ClassDef)):
            names.append(node.name)
        elif isinstance(node, ast.Assign):
            names.extend([target.id for target in node.targets])
    return names


class Form(unittest.TestCase):
    def trees(self):
        for path in files():
            yield path.name, ast.parse(path.read_text(encoding="ascii"))

    def test_files(self):
        names = sorted([path.name for path in PACKAGE.iterdir() if path.name != "__pycache__"])
        self.assertEqual(names, [path.name for path in files()])
        for name in names:
            self.assertRegex(name, r"^(__init__|[a-z][a-z0-9_]*)\.py$")

    def test_signs_and_sizes(self):
        for path in files():
            text = path.read_bytes().decode("ascii")
            self.assertRegex(text, r"\A[ -~\n]*\n\Z", path.name)
            self.assertLessEqual(len(text.splitlines()), 400)
            for row in text.splitlines():
                self.assertLessEqual(len(row), 120, (path.name, row))
            for word in BANNED:
                self.assertIsNone(re.search(rf"\b{word}\b", text), (path.name, word))
            self.assertIsNone(re.search("dataclass|overload|contextmanager", text), path.name)

    def test_nodes(self):
        for name, tree in self.trees():
            for node in ast.walk(tree):
                self.assertIsInstance(node, STATEMENTS + EXPRESSIONS + OTHERS, (name, getattr(node, "lineno", 0)))
                if isinstance(node, ast.Assign):
                    self.assertEqual(1, len(node.targets))
                if isinstance(node, (ast.For, ast.While, ast.Try)):
                    self.assertEqual([], getattr(node, "finalbody", []))
                    self.assertTrue(isinstance(node, ast.Try) or node.orelse == [])
                if isinstance(node, ast.BinOp):
                    self.assertNotIsInstance(node.op, (ast.Div, ast.Pow, ast.MatMult))
                if isinstance(node, ast.ListComp):
                    self.assertEqual(1, len(node.generators))
                    self.assertLessEqual(len(node.generators[0].ifs), 1)
                if isinstance(node, ast.Constant):
                    self.assertIn(type(node.value), (int, str, bool, type(None)))
                    self.assertFalse(isinstance(node.value, str) and "%" in node.value, name)
                if isinstance(node, ast.Compare) and any(isinstance(op, (ast.Is, ast.IsNot)) for op in node.ops):
                    self.assertIsInstance(node.comparators[0], ast.Constant)

    def test_functions(self):
        for name, tree in self.trees():
            for node in ast.walk(tree):
                if isinstance(node, (ast.FunctionDef, ast.ClassDef)):
                    self.assertEqual([], node.decorator_list)
                if isinstance(node, ast.FunctionDef):
                    self.assertLessEqual(node.end_lineno - node.lineno + 1, 40, (name, node.name))
                    rest = node.args
                    self.assertEqual((None, None, []), (rest.vararg, rest.kwarg, rest.kwonlyargs))

    def test_imports(self):
        defined = {name[:-3]: bound_at_top(tree) for name, tree in self.trees()}
        drawn = {}
        for name, tree in self.trees():
            drawn[name[:-3]] = []
            for node in ast.walk(tree):
                if isinstance(node, ast.ImportFrom):
                    self.assertIn(node, tree.body)
                    self.assertEqual(0, node.level)
                    self.assertTrue(node.module.startswith("channelnet."))
                    module = node.module.split(".")[1]
                    drawn[name[:-3]].append(module)
                    for alias in node.names:
                        self.assertIn(alias.name, defined[module])
        while drawn:
            free = [name for name, others in drawn.items() if not any(other in drawn for other in others)]
            self.assertTrue(free, drawn)
            for name in free:
                drawn.pop(name)

    def test_names(self):
        own_methods = []
        values = []
        for name, tree in self.trees():
            for node in ast.walk(tree):
                if isinstance(node, ast.ClassDef):
                    own_methods.extend([part.name for part in node.body if isinstance(part, ast.FunctionDef)])
                if isinstance(node, ast.Attribute) and isinstance(node.ctx, ast.Store):
                    values.append(node.attr)
        self.assertEqual(set(), set(own_methods) & set(values))
        for name, tree in self.trees():
            top = bound_at_top(tree)
            self.assertEqual(len(top), len(set(top)), name)
            for function in ast.walk(tree):
                if isinstance(function, ast.FunctionDef):
                    self.check_locals(name, function, top)
            for node in ast.walk(tree):
                if isinstance(node, ast.Attribute) and isinstance(node.ctx, ast.Load):
                    self.assertIn(node.attr, METHODS + own_methods + values, name)

    def check_locals(self, name, function, top):
        local = [arg.arg for arg in function.args.args]
        for node in ast.walk(function):
            if isinstance(node, ast.Name) and isinstance(node.ctx, ast.Store):
                local.append(node.id)
        for word in local:
            self.assertRegex(word, r"^[A-Za-z][A-Za-z0-9_]*$")
            self.assertNotIn(word, top + OWN + UNUSED + dir(builtins), (name, function.name))
        for node in ast.walk(function):
            if isinstance(node, ast.Name) and isinstance(node.ctx, ast.Load):
                self.assertIn(node.id, local + top + OWN, (name, function.name))
