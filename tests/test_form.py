"""The package keeps to the small part of Python that it is to be written in."""

import ast
import builtins
import pathlib
import re
import unittest

PACKAGE = pathlib.Path(__file__).resolve().parent.parent / "halvedruns"
ALLOWED_NODES = tuple(getattr(ast, name) for name in """
    Module Expr Constant ImportFrom alias FunctionDef arguments arg ClassDef Return Assign AugAssign If While For
    Break Continue Pass Raise Try ExceptHandler Name Load Store Attribute Subscript Slice Call keyword List Tuple Dict
    ListComp comprehension BinOp UnaryOp BoolOp Compare IfExp Lambda JoinedStr FormattedValue
    Add Sub Mult FloorDiv Mod Pow BitAnd BitOr BitXor LShift RShift USub Not And Or Invert
    Eq NotEq Lt LtE Gt GtE Is IsNot In NotIn""".split())
OWN_NAMES = set("""
    len range enumerate zip min max sum abs sorted reversed int str bool list tuple dict set isinstance ord repr any all
    divmod ValueError KeyError""".split())
METHODS = set("""
    append clear copy count endswith extend find get index insert items join keys pop remove replace reverse
    setdefault split startswith strip update values bit_length""".split())
WORDS = re.compile(r"\b(type|typing|typing_extensions|[Ee]num|IntEnum|StrEnum|Flag|IntFlag|Generic|Protocol|ABC|ABCMeta|"
                   r"namedtuple|NamedTuple|TypedDict|TYPE_CHECKING|abstractmethod)\b|dataclass|overload|contextmanager")


def files():
    return sorted(PACKAGE.glob("*.py"))


def nodes(kind):
    for path in files():
        for node in ast.walk(ast.parse(path.read_text())):
            if isinstance(node, kind):
                yield path.name, node


class Form(unittest.TestCase):

    def test_files(self):
        names = [path.name for path in PACKAGE.iterdir() if path.name != "__pycache__"]
        self.assertIn("__init__.py", names)
        for name in names:
            self.assertRegex(name, r"^[a-z0-9_]+\.py$")
            self.assertNotIn(name[:-3], dir(builtins))

    def test_signs_and_sizes(self):
        for path in files():
            text = path.read_text(encoding="utf-8")
            self.assertRegex(text, r"\A[ -~\n]*\n\Z", path.name)
            self.assertLessEqual(len(text.splitlines()), 400, path.name)
            self.assertLessEqual(max(len(line) for line in text.splitlines()), 120, path.name)
            self.assertIsNone(WORDS.search(text), path.name)

    def test_only_allowed_statements_and_expressions(self):
        for name, node in nodes(ast.AST):
            self.assertIsInstance(node, ALLOWED_NODES, (name, getattr(node, "lineno", 0)))
            self.assertFalse(getattr(node, "finalbody", None), name)
            self.assertFalse(getattr(node, "decorator_list", None), name)
        for name, node in nodes((ast.For, ast.While)):
            self.assertEqual(node.orelse, [], name)
        for name, node in nodes(ast.Assign):
            self.assertEqual(len(node.targets), 1, name)
        for name, node in nodes(ast.Constant):
            self.assertIsInstance(node.value, (int, str, type(None)), name)
        for name, node in nodes(ast.ListComp):
            self.assertTrue(len(node.generators) == 1 and len(node.generators[0].ifs) <= 1, name)

    def test_functions(self):
        for name, node in nodes(ast.FunctionDef):
            self.assertLessEqual(node.end_lineno - node.lineno + 1, 40, (name, node.name))
            self.assertIsNone(node.args.vararg or node.args.kwarg)
            self.assertEqual(node.args.kwonlyargs + node.args.posonlyargs, [])

    def test_imports(self):
        drawn = {}
        for name, node in nodes(ast.ImportFrom):
            self.assertRegex(node.module, r"^halvedruns\.[a-z_]+$")
            source = ast.parse((PACKAGE / (node.module.split(".")[1] + ".py")).read_text())
            defined = [one.name for one in source.body if isinstance(one, (ast.FunctionDef, ast.ClassDef))]
            defined += [one.targets[0].id for one in source.body if isinstance(one, ast.Assign)]
            for alias in node.names:
                self.assertIn(alias.name, defined)
            drawn.setdefault(name, set()).add(node.module.split(".")[1] + ".py")
        while drawn:
            free = [name for name in drawn if not drawn[name] & set(drawn)]
            self.assertTrue(free, "files draw from one another")
            for name in free:
                del drawn[name]

    def test_names(self):
        own = set(dir(builtins))
        for name, node in nodes(ast.Name):
            self.assertFalse(node.id.startswith("_"), name)
            if node.id in own:
                self.assertIsInstance(node.ctx, ast.Load, (name, node.id))
                self.assertIn(node.id, OWN_NAMES, name)
        for name, node in nodes(ast.arg):
            self.assertNotIn(node.arg, own, name)
            self.assertFalse(node.arg.startswith("_"), name)
            self.assertIsNone(node.annotation)
        for name, node in nodes(ast.Compare):
            if any(isinstance(op, (ast.Is, ast.IsNot)) for op in node.ops):
                self.assertIsInstance(node.comparators[0], ast.Constant, name)

    def test_methods_and_values(self):
        methods = set()
        for name, node in nodes(ast.ClassDef):
            self.assertEqual(node.bases, [])
            methods |= {one.name for one in node.body if isinstance(one, ast.FunctionDef)}
        values = {node.attr for name, node in nodes(ast.Attribute) if isinstance(node.ctx, ast.Store)}
        self.assertEqual(methods & values, set())
        taken = {attr for kind in (str, int, list, dict, set, bytes, tuple) for attr in dir(kind)}
        self.assertEqual(methods & taken, {"__init__"})
        self.assertEqual(values & taken, set())
        for name, node in nodes(ast.Call):
            if isinstance(node.func, ast.Attribute):
                self.assertIn(node.func.attr, methods | METHODS, name)


if __name__ == "__main__":
    unittest.main()
