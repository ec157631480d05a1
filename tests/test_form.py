"""The form of the package's files, as far as it can be seen in their syntax. L1 to L28 are the rules of LANGUAGE.md."""

import ast
import builtins
import pathlib
import re
import unittest

PACKAGE = pathlib.Path(__file__).resolve().parent.parent / "gridframe"
FILES = sorted(PACKAGE.rglob("*.py"))

STATEMENTS = (
    ast.Assign, ast.AugAssign, ast.If, ast.While, ast.For, ast.Return, ast.Break, ast.Continue, ast.Pass, ast.Raise,
    ast.Try, ast.Expr, ast.FunctionDef, ast.ClassDef, ast.ImportFrom,
)
EXPRESSIONS = (
    ast.Constant, ast.List, ast.Tuple, ast.Dict, ast.BinOp, ast.UnaryOp, ast.BoolOp, ast.Compare, ast.IfExp, ast.Call,
    ast.Attribute, ast.Subscript, ast.Slice, ast.ListComp, ast.JoinedStr, ast.FormattedValue, ast.Name, ast.Lambda,
)
OWN_NAMES = set(
    "len range enumerate zip min max sum abs sorted reversed int str bool list tuple dict set frozenset isinstance "
    "ord repr any all divmod Exception ValueError TypeError KeyError IndexError LookupError ZeroDivisionError "
    "ArithmeticError OverflowError RuntimeError NotImplementedError AttributeError StopIteration".split()
)
OWN_METHODS = set(
    "append clear copy count endswith extend find get index insert isalnum isalpha isdigit islower isspace isupper "
    "items join keys ljust lower lstrip partition pop remove replace reverse rfind rjust rpartition rsplit rstrip "
    "setdefault split splitlines startswith strip update upper values zfill bit_length".split()
)
WORDS_OUT = re.compile(
    r"\b(type|typing|typing_extensions|enum|Enum|IntEnum|StrEnum|Flag|IntFlag|Generic|Protocol|ABC|ABCMeta|namedtuple"
    r"|NamedTuple|TypedDict|TYPE_CHECKING|abstractmethod)\b|dataclass|overload|contextmanager"
)


def is_docstring(node, tree):
    return node is tree.body[0] and isinstance(node.value, ast.Constant) and isinstance(node.value.value, str)


def bound_names(tree):
    for node in ast.walk(tree):
        if isinstance(node, (ast.FunctionDef, ast.ClassDef)):
            yield node.name
        elif isinstance(node, ast.arg):
            yield node.arg
        elif isinstance(node, ast.Name) and isinstance(node.ctx, ast.Store):
            yield node.id


def parsed():
    for path in FILES:
        text = path.read_text(encoding="utf-8")
        yield path, text, ast.parse(text)


class Form(unittest.TestCase):
    def test_files(self):
        self.assertTrue(FILES)
        for path in PACKAGE.rglob("*"):
            if "__pycache__" not in path.parts:
                self.assertEqual(path.suffix, ".py", "L1")
                self.assertRegex(path.stem, r"^[a-z0-9_]+$", "L14")

    def test_signs_and_sizes(self):
        for path, text, tree in parsed():
            with self.subTest(file=path.name):
                self.assertRegex(text, r"\A[ -~\n]*\Z", "L14")
                self.assertIsNone(WORDS_OUT.search(text), "L17")
                lines = text.split("\n")
                self.assertLessEqual(len(lines) - 1, 400, "L10")
                self.assertLessEqual(max(len(line) for line in lines), 120, "L10")
                for node in ast.walk(tree):
                    if isinstance(node, ast.FunctionDef):
                        self.assertLessEqual(node.end_lineno - node.lineno + 1, 40, "L10")

    def test_imports(self):
        drawn = {}
        for path, _, tree in parsed():
            with self.subTest(file=path.name):
                for node in ast.walk(tree):
                    if isinstance(node, ast.ImportFrom):
                        self.assertIn(node, tree.body, "L2")
                        self.assertEqual(node.level, 0, "L2")
                        self.assertRegex(node.module, r"^gridframe\.[a-z0-9_]+$", "L2")
                        source = node.module.split(".")[1]
                        drawn.setdefault(path.stem, set()).add(source)
                        top = ast.parse((PACKAGE / f"{source}.py").read_text()).body
                        defined = {part.name for part in top if isinstance(part, (ast.FunctionDef, ast.ClassDef))}
                        defined |= {part.targets[0].id for part in top if isinstance(part, ast.Assign)}
                        for name in node.names:
                            self.assertIn(name.name, defined, "L16")
                            self.assertIsNone(name.asname)
        self.assertNotIn("__init__", drawn, "L16")
        while drawn:
            ends = [name for name, sources in drawn.items() if not sources & set(drawn)]
            self.assertTrue(ends, "L16: files draw from one another")
            for name in ends:
                drawn.pop(name)

    def test_statements_and_expressions(self):
        for path, _, tree in parsed():
            with self.subTest(file=path.name):
                for node in ast.walk(tree):
                    where = f"line {getattr(node, 'lineno', 0)}"
                    if isinstance(node, ast.stmt):
                        self.assertIsInstance(node, STATEMENTS, "L6 " + where)
                    if isinstance(node, ast.expr):
                        self.assertIsInstance(node, EXPRESSIONS, "L7 " + where)
                    if isinstance(node, ast.Expr) and not is_docstring(node, tree):
                        self.assertIsInstance(node.value, ast.Call, "L6 " + where)
                    if isinstance(node, ast.Assign):
                        self.assertEqual(len(node.targets), 1, "L6 " + where)
                    if isinstance(node, (ast.For, ast.While)):
                        self.assertFalse(node.orelse, "L6 " + where)
                    if isinstance(node, ast.Try):
                        self.assertFalse(node.finalbody, "L6 " + where)
                    if isinstance(node, ast.ListComp):
                        self.assertEqual(len(node.generators), 1, "L7 " + where)
                        self.assertLessEqual(len(node.generators[0].ifs), 1, "L7 " + where)
                    if isinstance(node, ast.BinOp):
                        self.assertNotIsInstance(node.op, (ast.Div, ast.MatMult), "L7 " + where)
                    if isinstance(node, ast.Constant):
                        self.assertIsInstance(node.value, (int, str, type(None)), "L7 " + where)
                        self.assertNotIn("%", str(node.value), "L27 " + where)
                    if isinstance(node, ast.FormattedValue):
                        self.assertIsInstance(node.value, ast.Name, "L7 " + where)
                        self.assertIsNone(node.format_spec, "L7 " + where)

    def test_is_stands_beside_none_true_and_false(self):
        for path, _, tree in parsed():
            with self.subTest(file=path.name):
                for node in ast.walk(tree):
                    if isinstance(node, ast.Compare):
                        for op, right in zip(node.ops, node.comparators):
                            if isinstance(op, (ast.Is, ast.IsNot)):
                                self.assertIsInstance(right, ast.Constant, "L20")
                                self.assertIn(right.value, (None, True, False), "L20")

    def test_errors_are_taken_and_raised_by_the_names_of_the_program(self):
        errors = ast.parse((PACKAGE / "errors.py").read_text(encoding="utf-8"))
        own = {node.name for node in errors.body if isinstance(node, ast.ClassDef)}
        for path, _, tree in parsed():
            with self.subTest(file=path.name):
                for node in ast.walk(tree):
                    if isinstance(node, ast.ExceptHandler):
                        self.assertIsInstance(node.type, ast.Name, "L19")
                        self.assertIn(node.type.id, own, "L19")
                    if isinstance(node, ast.Raise):
                        self.assertIsInstance(node.exc, ast.Call, "L19")
                        self.assertIn(node.exc.func.id, own, "L19")

    def test_functions_and_classes(self):
        for path, _, tree in parsed():
            with self.subTest(file=path.name):
                for node in ast.walk(tree):
                    if isinstance(node, (ast.FunctionDef, ast.ClassDef)):
                        self.assertFalse(node.decorator_list, "L4, L5")
                    if isinstance(node, ast.ClassDef):
                        self.assertIn(node, tree.body, "L15")
                        self.assertLessEqual(len(node.bases), 1, "L5")
                        for part in node.body:
                            self.assertIsInstance(part, (ast.FunctionDef, ast.Pass), "L5")
                    if isinstance(node, ast.arguments):
                        self.assertIsNone(node.vararg, "L4")
                        self.assertIsNone(node.kwarg, "L4")
                        self.assertFalse(node.kwonlyargs, "L4")

    def test_names(self):
        for path, _, tree in parsed():
            with self.subTest(file=path.name):
                bound = set(bound_names(tree))
                taken = bound & set(dir(builtins))
                self.assertFalse(taken, "L8, L15")
                for name in bound - {"__init__"}:
                    self.assertRegex(name, r"^[A-Za-z][A-Za-z0-9_]*$", "L12")
                for node in ast.walk(tree):
                    if isinstance(node, ast.Name) and node.id in dir(builtins):
                        self.assertIn(node.id, OWN_NAMES, "L8")
                    if isinstance(node, ast.Call) and isinstance(node.func, ast.Attribute):
                        self.assertIn(node.func.attr, OWN_METHODS | bound, "L25")

    def test_names_at_the_top_are_bound_once_and_not_again_within(self):
        for path, _, tree in parsed():
            with self.subTest(file=path.name):
                top = []
                locked = set()
                for node in tree.body:
                    if isinstance(node, ast.ImportFrom):
                        top.extend(name.name for name in node.names)
                        locked.update(name.name for name in node.names)
                    elif isinstance(node, (ast.FunctionDef, ast.ClassDef)):
                        top.append(node.name)
                        if isinstance(node, ast.ClassDef):
                            locked.add(node.name)
                    elif isinstance(node, ast.Assign):
                        top.append(node.targets[0].id)
                self.assertEqual(len(top), len(set(top)), "L15")
                for node in ast.walk(tree):
                    if isinstance(node, ast.arg):
                        self.assertNotIn(node.arg, locked, "L15")
                    if isinstance(node, ast.Name) and isinstance(node.ctx, ast.Store):
                        self.assertNotIn(node.id, locked, "L15")


if __name__ == "__main__":
    unittest.main()
