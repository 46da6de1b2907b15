"""The package keeps to its small part of Python; each check names the rule of LANGUAGE.md."""

import ast
import builtins
import pathlib
import re
import unittest

PACKAGE = pathlib.Path(__file__).resolve().parent.parent / "samestride"
OWN_NAMES = set(
    "len range enumerate zip min max sum abs sorted reversed int str bool list tuple dict set frozenset isinstance "
    "ord repr any all divmod Exception ValueError TypeError KeyError IndexError LookupError ZeroDivisionError "
    "ArithmeticError OverflowError RuntimeError NotImplementedError AttributeError StopIteration".split()
)
METHODS = set(
    "append clear copy count endswith extend find get index insert isalnum isalpha isdigit islower isspace isupper "
    "items join keys ljust lower lstrip partition pop remove replace reverse rfind rjust rpartition rsplit rstrip "
    "setdefault split splitlines startswith strip update upper values zfill bit_length".split()
)
DUNDERS = {"__init__", "__eq__", "__repr__", "__str__", "__len__", "__all__", "__version__", "__name__"}
NODES = set(
    "Module Expr Constant ImportFrom alias FunctionDef arguments arg ClassDef Assign AugAssign Name Load Store If "
    "While For Return Break Continue Pass Raise Try ExceptHandler Call keyword Attribute Subscript Slice List Tuple "
    "Dict Set BinOp UnaryOp BoolOp Compare IfExp ListComp comprehension JoinedStr FormattedValue Lambda Add Sub Mult "
    "FloorDiv Mod Pow BitAnd BitOr BitXor LShift RShift Invert USub UAdd Not And Or Eq NotEq Lt LtE Gt GtE Is IsNot "
    "In NotIn".split()
)
WORDS = re.compile(
    r"\b(type|typing|typing_extensions|enum|Enum|IntEnum|StrEnum|Flag|IntFlag|Generic|Protocol|ABC|ABCMeta"
    r"|namedtuple|NamedTuple|TypedDict|TYPE_CHECKING|abstractmethod)\b|dataclass|overload|contextmanager"
)
VALUES_LIKE_METHODS = set("count index title find get join lower upper split strip copy add".split())
WALKED = ("zip", "enumerate", "reversed", "range", "items", "keys", "values")
WALKERS = ("list", "tuple", "dict", "sorted", "sum", "any", "all", "enumerate", "zip", "join")
NOWHERE = set("register mro elements open input version_info with_traceback add_note format format_map".split())


def files():
    return sorted(path for path in PACKAGE.rglob("*") if "__pycache__" not in path.parts)


def top_names(tree):
    told = []
    for node in tree.body:
        if isinstance(node, (ast.FunctionDef, ast.ClassDef)):
            told.append(node.name)
        elif isinstance(node, ast.Assign):
            told.extend(target.id for target in node.targets)
        elif isinstance(node, ast.ImportFrom):
            told.extend(alias.name for alias in node.names)
    return told


def bound_within(tree):
    told = [node.arg for node in ast.walk(tree) if isinstance(node, ast.arg)]
    for node in tree.body:
        if isinstance(node, (ast.FunctionDef, ast.ClassDef)):
            told.extend(n.id for n in ast.walk(node) if isinstance(n, ast.Name) and isinstance(n.ctx, ast.Store))
    return told


# The name by which a function or a method is called; None of all else.
def called_name(node):
    if not isinstance(node, ast.Call):
        return None
    return getattr(node.func, "id", None) or getattr(node.func, "attr", None)


def is_walked_by(parent, node):
    name = called_name(parent)
    if name in ("min", "max"):
        return parent.args == [node]
    return name in WALKERS and parent.args[:1] == [node]


class Language(unittest.TestCase):
    def each(self):
        for path in files():
            if path.is_file():
                text = path.read_text(encoding="utf-8")
                yield path, text, ast.parse(text)

    def nodes(self):
        for path, text, tree in self.each():
            for node in ast.walk(tree):
                yield f"{path.name}:{getattr(node, 'lineno', 0)}", path, node

    def test_l1_l14_files(self):
        self.assertTrue((PACKAGE / "__init__.py").is_file())
        for path in files():
            if path.is_file():
                self.assertRegex(path.name, r"^([a-z][a-z0-9_]*|__init__|__main__)\.py$")
                self.assertNotRegex(path.stem, r"^(test|tests|testing|test_.*|site|conftest|.*customize)$")
                self.assertFalse(path.stem[0] != "_" and hasattr(builtins, path.stem), path)

    def test_l10_l14_size_and_signs(self):
        for path, text, tree in self.each():
            self.assertLessEqual(text.count("\n"), 400, path)
            self.assertRegex(text, r"\A[\n -~]*\Z", path)
            for number, line in enumerate(text.split("\n"), start=1):
                self.assertLessEqual(len(line), 120, f"{path.name}:{number}")
        for where, path, node in self.nodes():
            if isinstance(node, ast.FunctionDef):
                self.assertLessEqual(node.end_lineno - node.lineno + 1, 40, where)

    def test_l2_l16_imports(self):
        drawn = {}
        trees = {path.stem: tree for path, text, tree in self.each()}
        for where, path, node in self.nodes():
            if isinstance(node, ast.ImportFrom) and node.module != "__future__":
                self.assertEqual(node.level, 0, where)
                self.assertRegex(node.module, r"^samestride\.[a-z0-9_]+$", where)
                source = node.module.split(".")[1]
                drawn.setdefault(path.stem, []).append(source)
                defined = [n for n in top_names(trees[source]) if n not in self.imported(trees[source])]
                for alias in node.names:
                    self.assertIn(alias.name, defined, where)
        for start in drawn:
            seen, waiting = set(), list(drawn[start])
            while waiting:
                source = waiting.pop()
                self.assertNotEqual(source, start, f"{start} draws from itself")
                if source not in seen:
                    seen.add(source)
                    waiting.extend(drawn.get(source, []))

    def imported(self, tree):
        return [alias.name for node in tree.body if isinstance(node, ast.ImportFrom) for alias in node.names]

    def test_l3_l15_top(self):
        for path, text, tree in self.each():
            names = top_names(tree)
            self.assertEqual(sorted(set(names)), sorted(names), path)
            for node in tree.body[1:] if ast.get_docstring(tree) else tree.body:
                self.assertIsInstance(node, (ast.ImportFrom, ast.FunctionDef, ast.ClassDef, ast.Assign, ast.If), path)
            taken = set(self.imported(tree)) | {n.name for n in tree.body if isinstance(n, ast.ClassDef)}
            for name in bound_within(tree):
                self.assertNotIn(name, taken, path)
                self.assertFalse(hasattr(builtins, name), f"{path.name}: {name}")

    def test_l4_l6_l7_forms(self):
        for where, path, node in self.nodes():
            self.assertIn(node.__class__.__name__, NODES | ({"Import"} if path.stem == "__main__" else set()), where)
            if isinstance(node, (ast.While, ast.For)):
                self.assertEqual(node.orelse, [], where)
            if isinstance(node, ast.Try):
                self.assertEqual(node.finalbody, [], where)
            if isinstance(node, ast.Assign):
                self.assertEqual(len(node.targets), 1, where)
            if isinstance(node, (ast.FunctionDef, ast.ClassDef)):
                self.assertEqual(node.decorator_list, [], where)
            if isinstance(node, ast.arguments):
                self.assertFalse(node.vararg or node.kwarg or node.kwonlyargs or node.posonlyargs, where)
            if isinstance(node, ast.ListComp):
                self.assertEqual(len(node.generators), 1, where)
                self.assertLessEqual(len(node.generators[0].ifs), 1, where)
            if isinstance(node, ast.Expr):
                self.assertIsInstance(node.value, (ast.Call, ast.Constant), where)
            if isinstance(node, ast.Constant):
                self.assertIn(node.value.__class__, (int, str, bool, None.__class__), where)
            if isinstance(node, ast.FormattedValue):
                self.assertIsInstance(node.value, ast.Name, where)

    def test_l5_l18_classes(self):
        for where, path, node in self.nodes():
            if isinstance(node, ast.ClassDef):
                self.assertLessEqual(len(node.bases), 1, where)
                for inner in node.body:
                    self.assertIsInstance(inner, (ast.FunctionDef, ast.Pass, ast.Expr), where)

    # Values may be called like a few of Python's own methods; methods like those of L25.
    def test_l18_l26_methods_and_values(self):
        methods, values = set(), set()
        for where, path, node in self.nodes():
            if isinstance(node, ast.ClassDef):
                told = [inner.name for inner in node.body if isinstance(inner, ast.FunctionDef)]
                self.assertEqual(sorted(set(told)), sorted(told), where)
                methods.update(told)
            if isinstance(node, ast.Attribute) and isinstance(node.ctx, ast.Store):
                values.add(node.attr)
        taken = set().union(*(dir(kind) for kind in (str, int, list, dict, set, bytes)))
        self.assertEqual(methods & values, set())
        self.assertEqual(values & taken - VALUES_LIKE_METHODS, set())
        self.assertEqual(methods & taken - METHODS - DUNDERS - {"add", "discard"}, set())

    # What a function within a function reads from around it is not assigned there.
    def test_l4_functions_within(self):
        for where, path, node in self.nodes():
            if isinstance(node, (ast.FunctionDef, ast.Lambda)):
                for inner in ast.walk(node):
                    if inner is not node and isinstance(inner, ast.FunctionDef):
                        self.assertIsNone(inner.returns, where)
                        self.assertEqual([n for n in ast.walk(inner) if isinstance(n, ast.AugAssign)], [], where)

    def test_l8_l12_l17_names(self):
        for where, path, node in self.nodes():
            for name in (getattr(node, "id", None), getattr(node, "arg", None), getattr(node, "name", None),
                         getattr(node, "attr", None)):
                if isinstance(name, str) and name not in DUNDERS:
                    self.assertRegex(name, r"^[A-Za-z][A-Za-z0-9_]*$", where)
                    self.assertNotIn(name, NOWHERE, where)
            if isinstance(node, ast.Name) and hasattr(builtins, node.id) and path.stem != "__main__":
                self.assertIn(node.id, OWN_NAMES, where)

    def test_l17_words(self):
        for path, text, tree in self.each():
            self.assertIsNone(WORDS.search(text), path)

    def test_l19_errors(self):
        for where, path, node in self.nodes():
            if isinstance(node, ast.Raise):
                self.assertIsInstance(node.exc, ast.Call, where)
            if isinstance(node, ast.ExceptHandler):
                self.assertIsNotNone(node.type, where)
                for name in ast.walk(node.type):
                    self.assertNotIn(getattr(name, "id", None), ("Exception", "TypeError"), where)

    def test_l20_is(self):
        for where, path, node in self.nodes():
            if isinstance(node, ast.Compare) and any(isinstance(op, (ast.Is, ast.IsNot)) for op in node.ops):
                self.assertIn(repr(getattr(node.comparators[0], "value", 0)), ("None", "True", "False"), where)

    def test_l23_walked_at_once(self):
        for path, text, tree in self.each():
            for parent in ast.walk(tree):
                for node in ast.iter_child_nodes(parent):
                    if called_name(node) in WALKED:
                        where = f"{path.name}:{node.lineno}"
                        self.assertTrue(getattr(parent, "iter", None) is node or is_walked_by(parent, node), where)

    def test_l25_methods(self):
        own = {node.name for where, path, node in self.nodes() if isinstance(node, ast.FunctionDef)}
        for where, path, node in self.nodes():
            if isinstance(node, ast.Call) and isinstance(node.func, ast.Attribute) and path.stem != "__main__":
                self.assertIn(node.func.attr, METHODS | own, where)

    def test_l27_texts(self):
        for where, path, node in self.nodes():
            if isinstance(node, ast.Constant) and isinstance(node.value, str):
                self.assertNotIn("%", node.value, where)


if __name__ == "__main__":
    unittest.main()
