"""Holds the package's files against the part of Python that the program keeps to.

It sees the rules that a walk over the parsed file shows plainly, not all of them.
"""

import ast
import builtins
import pathlib
import re
import unittest

TOP = pathlib.Path(__file__).resolve().parent.parent
PACKAGE = TOP / "shiftsums"
FILES = sorted(PACKAGE.rglob("*.py"))

OWN_NAMES = set(
    "len range enumerate zip min max sum abs sorted reversed int str bool list tuple dict set frozenset isinstance ord "
    "repr any all divmod Exception ValueError TypeError KeyError IndexError LookupError ZeroDivisionError "
    "ArithmeticError OverflowError RuntimeError NotImplementedError AttributeError StopIteration".split()
)
METHODS = set(
    "append clear copy count endswith extend find get index insert isalnum isalpha isdigit islower isspace isupper items "
    "join keys ljust lower lstrip partition pop remove replace reverse rfind rjust rpartition rsplit rstrip setdefault "
    "split splitlines startswith strip update upper values zfill bit_length add discard title".split()
)
PYTHONS_METHODS = {name for kind in (str, int, list, tuple, dict, set, bytes) for name in dir(kind)}
UNDERSCORED = {"__init__", "__eq__", "__repr__", "__str__", "__len__", "__all__", "__version__", "__name__"}
WORDS = re.compile(
    r"\b(type|typing|typing_extensions|enum|Enum|IntEnum|StrEnum|Flag|IntFlag|Generic|Protocol|ABC|ABCMeta|namedtuple"
    r"|NamedTuple|TypedDict|TYPE_CHECKING|abstractmethod)\b|dataclass|overload|contextmanager"
)
LEFT_OUT = (
    ast.With, ast.Match, ast.Delete, ast.Global, ast.Nonlocal, ast.Assert, ast.Yield, ast.YieldFrom, ast.Await,
    ast.AsyncFunctionDef, ast.AsyncFor, ast.AsyncWith, ast.SetComp, ast.DictComp, ast.GeneratorExp, ast.NamedExpr,
    ast.Starred, ast.Div, ast.MatMult, ast.Import, ast.AnnAssign,
)
WALKED = ("zip", "enumerate", "reversed", "range", "items", "keys", "values")
WALKERS = ("list", "tuple", "dict", "sorted", "sum", "any", "all", "enumerate", "zip", "min", "max", "join")


def parsed(path):
    return ast.parse(path.read_text(encoding="utf-8"))


def nodes(path, *kinds):
    return [node for node in ast.walk(parsed(path)) if isinstance(node, kinds)]


def bound_at_top(path):
    return {node.name for node in parsed(path).body if isinstance(node, (ast.FunctionDef, ast.ClassDef))} | {
        target.id for node in parsed(path).body if isinstance(node, ast.Assign) for target in node.targets
    }


def drawn_from(path):
    """The package's files that a file draws from, by their names."""
    return [node.module.split(".")[1] for node in nodes(path, ast.ImportFrom)]


def drawn_names(path):
    return [name.asname or name.name for node in nodes(path, ast.ImportFrom) for name in node.names]


def walked_on_the_spot(path):
    """The nodes of a file that stand where something is walked at once."""
    spots = [node.iter for node in nodes(path, ast.For, ast.comprehension)]
    for call in nodes(path, ast.Call):
        if getattr(call.func, "id", getattr(call.func, "attr", "")) in WALKERS:
            spots.extend(call.args)
    return {(spot.lineno, spot.col_offset) for spot in spots}


class Form(unittest.TestCase):
    def each(self, *kinds):
        for path in FILES:
            for node in nodes(path, *kinds):
                where = f"{path.name}:{getattr(node, 'lineno', '?')}"
                yield node, where

    def test_files(self):
        self.assertIn(PACKAGE / "__init__.py", FILES)
        for path in PACKAGE.rglob("*"):
            if "__pycache__" not in path.parts:
                self.assertRegex(path.name, r"^[a-z0-9_]+\.py$")
                self.assertNotRegex(path.name, r"^test")

    def test_signs_and_sizes(self):
        for path in FILES:
            text = path.read_bytes().decode("ascii")
            self.assertRegex(text, r"\A[ -~\n]*\Z", path.name)
            self.assertIsNone(WORDS.search(text), path.name)
            lines = text.split("\n")
            self.assertLessEqual(len(lines), 400, path.name)
            self.assertLessEqual(max(len(line) for line in lines), 120, path.name)

    def test_functions(self):
        for node, where in self.each(ast.FunctionDef):
            self.assertLessEqual(node.end_lineno - node.lineno + 1, 40, where)
            self.assertEqual(node.decorator_list, [], where)
            given = node.args
            self.assertIsNone(given.vararg or given.kwarg, where)
            self.assertEqual(given.kwonlyargs + given.posonlyargs, [], where)

    def test_classes(self):
        for node, where in self.each(ast.ClassDef):
            self.assertEqual(node.decorator_list + node.keywords, [], where)
            self.assertLessEqual(len(node.bases), 1, where)
            for part in node.body:
                self.assertIsInstance(part, (ast.FunctionDef, ast.Pass), where)

    def test_the_top_of_a_module(self):
        for path in FILES:
            for node in parsed(path).body[1:]:
                kinds = (ast.ImportFrom, ast.FunctionDef, ast.ClassDef, ast.Assign)
                self.assertIsInstance(node, kinds, f"{path.name}:{node.lineno}")

    def test_imports(self):
        for node, where in self.each(ast.ImportFrom):
            self.assertEqual(node.level, 0, where)
            self.assertRegex(node.module, r"^shiftsums\.[a-z0-9_]+$", where)
            there = bound_at_top(PACKAGE / (node.module.split(".")[1] + ".py"))
            for name in node.names:
                self.assertIn(name.name, there, where)

    def test_no_two_files_draw_from_one_another(self):
        drawn = {path.stem: drawn_from(path) for path in FILES}
        while drawn:
            free = [name for name in drawn if not any(other in drawn for other in drawn[name])]
            self.assertTrue(free, f"these draw from one another: {sorted(drawn)}")
            drawn = {name: others for name, others in drawn.items() if name not in free}

    def test_drawn_names_are_used_and_keep_their_meaning(self):
        for path in FILES:
            taken = drawn_names(path) + [node.name for node in nodes(path, ast.ClassDef)]
            self.assertEqual(len(set(taken)), len(taken), path.name)
            loaded = {node.id for node in nodes(path, ast.Name) if isinstance(node.ctx, ast.Load)}
            self.assertEqual(sorted(set(drawn_names(path)) - loaded), [], path.name)
            bound = [node.id for node in nodes(path, ast.Name) if not isinstance(node.ctx, ast.Load)]
            bound += [node.arg for node in nodes(path, ast.arg)] + [node.name for node in nodes(path, ast.FunctionDef)]
            self.assertEqual([name for name in bound if name in taken], [], path.name)

    def test_walked_at_once(self):
        for path in FILES:
            spots = walked_on_the_spot(path)
            for call in nodes(path, ast.Call):
                if getattr(call.func, "id", getattr(call.func, "attr", "")) in WALKED:
                    self.assertIn((call.lineno, call.col_offset), spots, f"{path.name}:{call.lineno}")

    def test_sets_are_not_kept(self):
        for path in FILES:
            asked = [node for call in nodes(path, ast.Call) if ast.unparse(call.func) in ("len", "sorted") for node in call.args]
            asked += [node for test in nodes(path, ast.Compare) for node in [test.left, *test.comparators]]
            spots = {(node.lineno, node.col_offset) for node in asked}
            for node in nodes(path, ast.Set, ast.Call):
                if isinstance(node, ast.Set) or ast.unparse(node.func) in ("set", "frozenset"):
                    self.assertIn((node.lineno, node.col_offset), spots, f"{path.name}:{node.lineno}")

    def test_statements_and_expressions(self):
        for node, where in self.each(*LEFT_OUT):
            self.fail(f"{where}: {node.__class__.__name__}")
        for node, where in self.each(ast.For, ast.While):
            self.assertEqual(node.orelse, [], where)
        for node, where in self.each(ast.Try):
            self.assertEqual(node.finalbody, [], where)
        for node, where in self.each(ast.Assign):
            self.assertEqual(len(node.targets), 1, where)
            self.assertNotIsInstance(node.targets[0], (ast.Tuple, ast.List), where)
        for node, where in self.each(ast.ListComp):
            self.assertEqual(len(node.generators), 1, where)
            self.assertLessEqual(len(node.generators[0].ifs), 1, where)

    def test_values(self):
        for node, where in self.each(ast.Constant):
            self.assertIsInstance(node.value, (int, str, type(None)), where)
        for node, where in self.each(ast.BinOp):
            if isinstance(node.op, ast.Pow):
                self.assertIsInstance(node.right, ast.Constant, where)
                self.assertIn(node.right.value, range(65), where)

    def test_is_stands_beside_none_and_truths_alone(self):
        for node, where in self.each(ast.Compare):
            for sign, right in zip(node.ops, node.comparators):
                if isinstance(sign, (ast.Is, ast.IsNot)):
                    self.assertIn(ast.unparse(right), ("None", "True", "False"), where)

    def test_names(self):
        for node, where in self.each(ast.Name, ast.arg, ast.Attribute, ast.FunctionDef, ast.ClassDef):
            name = [getattr(node, part) for part in ("id", "arg", "attr", "name") if hasattr(node, part)][0]
            self.assertTrue(name in UNDERSCORED or re.match(r"^[A-Za-z][A-Za-z0-9_]*$", name), f"{where}: {name}")

    def test_pythons_own_names(self):
        for node, where in self.each(ast.Name):
            if hasattr(builtins, node.id):
                self.assertIn(node.id, OWN_NAMES, where)
                self.assertIsInstance(node.ctx, ast.Load, where)
        for node, where in self.each(ast.arg):
            self.assertFalse(hasattr(builtins, node.arg), f"{where}: {node.arg}")

    def test_pythons_own_methods(self):
        for node, where in self.each(ast.Attribute):
            if node.attr in PYTHONS_METHODS and node.attr not in UNDERSCORED:
                self.assertIn(node.attr, METHODS, where)


if __name__ == "__main__":
    unittest.main()
