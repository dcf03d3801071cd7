"""The package keeps to its part of Python: those rules that can be read off the files."""

import ast
import pathlib
import re
import unittest

PACKAGE = pathlib.Path(__file__).resolve().parent.parent / "wrongday"
FILES = {path.stem: path for path in sorted(PACKAGE.glob("*.py"))}

NODES = (
    ast.Module, ast.ImportFrom, ast.alias, ast.FunctionDef, ast.Lambda, ast.arguments, ast.arg, ast.ClassDef,
    ast.Assign, ast.AugAssign, ast.If, ast.While, ast.For, ast.Return, ast.Break, ast.Continue, ast.Pass, ast.Raise,
    ast.Try, ast.ExceptHandler, ast.Expr, ast.Constant, ast.List, ast.Tuple, ast.Dict, ast.BinOp, ast.UnaryOp,
    ast.Compare, ast.BoolOp, ast.IfExp, ast.Call, ast.keyword, ast.Attribute, ast.Subscript, ast.Slice, ast.ListComp,
    ast.comprehension, ast.Name, ast.expr_context, ast.operator, ast.unaryop, ast.cmpop, ast.boolop,
)
OWN_OF_PYTHON = set(
    "len range enumerate zip min max sum abs sorted reversed int str bool list tuple dict set frozenset isinstance ord"
    " repr any all divmod Exception ValueError TypeError KeyError IndexError LookupError ZeroDivisionError"
    " ArithmeticError OverflowError RuntimeError NotImplementedError AttributeError StopIteration".split())
METHODS = set(
    "append clear copy count endswith extend find get index insert isalnum isalpha isdigit islower isspace isupper"
    " items join keys ljust lower lstrip partition pop remove replace reverse rfind rjust rpartition rsplit rstrip"
    " setdefault split splitlines startswith strip update upper values zfill bit_length".split())
NOT_USED = set(
    "register mro elements open input version_info with_traceback add_note attrgetter breakpoint builtins compile"
    " copyright credits delattr dir eval exec exit gc getattr globals hasattr help id importlib license locals"
    " methodcaller os quit setattr super type vars sys format format_map chr print".split())
WORDS_NOT_SAID = re.compile(
    r"\b(type|typing|typing_extensions|enum|Enum|IntEnum|StrEnum|Flag|IntFlag|Generic|Protocol|ABC|ABCMeta|namedtuple"
    r"|NamedTuple|TypedDict|TYPE_CHECKING|abstractmethod)\b|dataclass|overload|contextmanager")
TAKEN_VALUES = set(
    name for kind in (str, int, list, dict, set, bytes, tuple) for name in dir(kind) if not name.startswith("__"))
FREE_VALUES = set("count index title find get join lower upper split strip copy add".split())


def trees():
    return {name: ast.parse(path.read_text(encoding="utf-8")) for name, path in FILES.items()}


def walk_all():
    for name, tree in trees().items():
        for node in ast.walk(tree):
            yield f"{name}:{getattr(node, 'lineno', 0)}", node


def bound_names(tree):
    """Each name that a file binds, with its place: at the top, as a parameter or as a local."""
    for node in ast.walk(tree):
        if isinstance(node, (ast.FunctionDef, ast.ClassDef)):
            yield node.name
        elif isinstance(node, ast.arg):
            yield node.arg
        elif isinstance(node, ast.Name) and isinstance(node.ctx, ast.Store):
            yield node.id
        elif isinstance(node, ast.alias):
            yield node.name


def class_names(kind):
    """The names of all methods, or of all values that objects are given."""
    found = set()
    for where, node in walk_all():
        if kind == "method" and isinstance(node, ast.ClassDef):
            found.update(part.name for part in node.body if isinstance(part, ast.FunctionDef))
        if kind == "value" and isinstance(node, ast.Attribute) and isinstance(node.ctx, ast.Store):
            found.add(node.attr)
    return found


class Files(unittest.TestCase):
    def test_plain_files_alone(self):
        for path in PACKAGE.iterdir():
            if path.name != "__pycache__":
                self.assertRegex(path.name, r"^(__init__|[a-z][a-z0-9_]*)\.py$")
        self.assertIn("__init__", FILES)

    def test_signs_and_sizes(self):
        for name, path in FILES.items():
            text = path.read_bytes().decode("utf-8")
            self.assertRegex(text, r"\A[ -~\n]*\Z", name)
            self.assertLessEqual(len(text.splitlines()), 400, name)
            self.assertLessEqual(max(len(line) for line in text.splitlines()), 120, name)
            self.assertIsNone(WORDS_NOT_SAID.search(text), name)

    def test_functions_are_short(self):
        for where, node in walk_all():
            if isinstance(node, ast.FunctionDef):
                self.assertLessEqual(node.end_lineno - node.lineno + 1, 40, where)

    def test_imports(self):
        drawn = {}
        for name, tree in trees().items():
            rows = [node for node in ast.walk(tree) if isinstance(node, ast.ImportFrom)]
            drawn[name] = [row.module.split(".")[-1] for row in rows]
            for row in rows:
                self.assertIn(row, tree.body, name)
                self.assertEqual((row.level, row.module.split(".")[0]), (0, "wrongday"), name)
                defined = [node.name for node in trees()[row.module.split(".")[1]].body if hasattr(node, "name")]
                for node in trees()[row.module.split(".")[1]].body:
                    if isinstance(node, ast.Assign):
                        defined.append(node.targets[0].id)
                for alias in row.names:
                    self.assertIsNone(alias.asname)
                    self.assertIn(alias.name, defined, name)
        while drawn:
            ready = [name for name in drawn if not set(drawn[name]) & set(drawn)]
            self.assertTrue(ready, f"files draw from one another: {sorted(drawn)}")
            drawn = {name: drawn[name] for name in drawn if name not in ready}


class Code(unittest.TestCase):
    def test_only_the_parts_that_are_told(self):
        for where, node in walk_all():
            self.assertIsInstance(node, NODES, where)
            if isinstance(node, ast.Assign):
                self.assertEqual(len(node.targets), 1, where)
            if isinstance(node, (ast.For, ast.While)):
                self.assertEqual(node.orelse, [], where)
            if isinstance(node, ast.Constant):
                self.assertIn(type(node.value), (int, str, bool, type(None)), where)
            if isinstance(node, (ast.Div, ast.MatMult, ast.Pow)):
                self.fail(where)
            if isinstance(node, ast.ListComp):
                self.assertEqual(len(node.generators), 1, where)
                self.assertLessEqual(len(node.generators[0].ifs), 1, where)
            if isinstance(node, ast.Compare) and isinstance(node.ops[0], (ast.Is, ast.IsNot)):
                self.assertIsInstance(node.comparators[0], ast.Constant, where)

    def test_sets_are_not_kept(self):
        for name, tree in trees().items():
            made = [node for node in ast.walk(tree) if isinstance(node, ast.Call) and isinstance(node.func, ast.Name)]
            asked = [part for node in made if node.func.id in ("len", "sorted") for part in node.args]
            for node in ast.walk(tree):
                if isinstance(node, ast.Compare) and isinstance(node.ops[0], (ast.In, ast.NotIn)):
                    asked.extend(node.comparators)
            for node in made:
                if node.func.id in ("set", "frozenset"):
                    self.assertIn(node, asked, name)

    def test_texts_stand_alone_at_the_top_only(self):
        for name, tree in trees().items():
            for node in ast.walk(tree):
                if isinstance(node, ast.Expr) and node is not tree.body[0]:
                    self.assertIsInstance(node.value, ast.Call, name)

    def test_defs_are_plain(self):
        for where, node in walk_all():
            if isinstance(node, (ast.FunctionDef, ast.ClassDef)):
                self.assertEqual(node.decorator_list, [], where)
            if isinstance(node, ast.arguments):
                self.assertEqual((node.vararg, node.kwarg, node.kwonlyargs, node.posonlyargs), (None, None, [], []))
            if isinstance(node, ast.ClassDef):
                for part in node.body:
                    self.assertIsInstance(part, ast.FunctionDef, where)

    def test_the_top_holds_plain_values(self):
        plain = (ast.Constant, ast.Tuple, ast.List, ast.Dict, ast.UnaryOp, ast.USub, ast.Name, ast.expr_context)
        for name, tree in trees().items():
            above = []
            for node in tree.body:
                self.assertIsInstance(node, (ast.Expr, ast.ImportFrom, ast.FunctionDef, ast.ClassDef, ast.Assign))
                if isinstance(node, ast.FunctionDef):
                    above.append(node.name)
                if isinstance(node, ast.Assign):
                    for part in ast.walk(node.value):
                        self.assertIsInstance(part, plain, name)
                        if isinstance(part, ast.Name):
                            self.assertIn(part.id, above, name)

    def test_names(self):
        for name, tree in trees().items():
            bound = list(bound_names(tree))
            for word in bound:
                self.assertRegex(word, r"^([A-Za-z][A-Za-z0-9_]*|__init__)$", name)
                self.assertNotIn(word, dir(__builtins__) if not isinstance(__builtins__, dict) else __builtins__, name)
                self.assertNotIn(word, NOT_USED, name)
            for node in ast.walk(tree):
                if isinstance(node, ast.Name) and isinstance(node.ctx, ast.Load) and node.id not in bound:
                    self.assertIn(node.id, OWN_OF_PYTHON, name)

    def test_locals_are_not_called_like_classes_or_imports(self):
        for name, tree in trees().items():
            taken = [alias.name for node in tree.body if isinstance(node, ast.ImportFrom) for alias in node.names]
            taken += [node.name for node in tree.body if isinstance(node, ast.ClassDef)]
            top = [node.targets[0].id for node in tree.body if isinstance(node, ast.Assign)]
            top += taken + [node.name for node in tree.body if isinstance(node, ast.FunctionDef)]
            self.assertEqual(len(top), len(set(top)), name)
            for node in ast.walk(tree):
                if isinstance(node, ast.arg):
                    self.assertNotIn(node.arg, taken, name)
                if isinstance(node, ast.Name) and isinstance(node.ctx, ast.Store):
                    self.assertNotIn(node.id, taken, name)

    def test_methods_and_values(self):
        methods = class_names("method")
        values = class_names("value")
        self.assertEqual(methods & values, set())
        self.assertEqual((values & TAKEN_VALUES) - FREE_VALUES, set())
        self.assertEqual((methods & TAKEN_VALUES) - METHODS - {"add", "discard"}, set())
        for where, node in walk_all():
            if isinstance(node, ast.Attribute):
                self.assertNotIn(node.attr, NOT_USED, where)
                self.assertIn(node.attr, methods | values | METHODS, where)


if __name__ == "__main__":
    unittest.main()
