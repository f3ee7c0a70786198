"""The package keeps to its small part of Python, as far as a test can see it from the tree of each file."""

import ast
import builtins
import pathlib
import re
import unittest

PACKAGE = pathlib.Path(__file__).resolve().parent.parent / "stonewalker"
NAMES = set("""len range enumerate zip min max sum abs sorted reversed int str bool list tuple dict set frozenset
    isinstance ord repr any all divmod Exception ValueError TypeError KeyError IndexError LookupError ZeroDivisionError
    ArithmeticError OverflowError RuntimeError NotImplementedError AttributeError StopIteration""".split())
METHODS = set("""append clear copy count endswith extend find get index insert isalnum isalpha isdigit islower isspace
    isupper items join keys ljust lower lstrip partition pop remove replace reverse rfind rjust rpartition rsplit rstrip
    setdefault split splitlines startswith strip update upper values zfill bit_length __init__""".split())
DUNDERS = {"__init__", "__eq__", "__repr__", "__str__", "__len__"}
WORDS = re.compile(r"\b(type|typing|typing_extensions|enum|Enum|IntEnum|StrEnum|Flag|IntFlag|Generic|Protocol|ABC|ABCMeta"
                   r"|namedtuple|NamedTuple|TypedDict|TYPE_CHECKING|abstractmethod)\b|dataclass|overload|contextmanager")
NOT_USED = set("""register mro elements open input version_info with_traceback add_note attrgetter breakpoint builtins
    compile copyright credits delattr dir eval exec exit gc getattr globals hasattr help id importlib license locals
    methodcaller os quit setattr super type vars sys __name__""".split())
NODES = set("""Module FunctionDef arguments arg ClassDef ImportFrom alias Assign AugAssign If While For Return Break
    Continue Pass Raise Try ExceptHandler Expr Constant Name Load Store List Tuple Dict Set BinOp UnaryOp BoolOp Compare
    IfExp Call keyword Attribute Subscript Slice ListComp comprehension Lambda JoinedStr FormattedValue And Or Not USub
    UAdd Invert Add Sub Mult FloorDiv Mod Pow BitAnd BitOr BitXor LShift RShift Eq NotEq Lt LtE Gt GtE Is IsNot In
    NotIn""".split())
WALKED = {"zip", "enumerate", "reversed", "range"}


def files():
    return sorted(path for path in PACKAGE.rglob("*.py"))


def tree_of(path):
    return ast.parse(path.read_text(encoding="utf-8"))


def nodes(tree, *kinds):
    return [node for node in ast.walk(tree) if isinstance(node, kinds)]


def top_names(tree):
    """The names that a file binds at its top, as often as it does."""
    told = []
    for node in tree.body:
        if isinstance(node, (ast.FunctionDef, ast.ClassDef)):
            told.append(node.name)
        elif isinstance(node, ast.ImportFrom):
            told += [name.asname or name.name for name in node.names]
        elif isinstance(node, ast.Assign):
            told += [target.id for target in node.targets]
    return told


def local_names(tree):
    """The parameters and locals of all functions of a file."""
    told = [node.arg for node in nodes(tree, ast.arg)]
    for function in nodes(tree, ast.FunctionDef, ast.ListComp):
        told += [node.id for node in nodes(function, ast.Name) if isinstance(node.ctx, ast.Store)]
    return told


class LanguageTest(unittest.TestCase):
    file = "package"

    def each(self):
        for path in files():
            self.file = path.name
            yield path, tree_of(path)

    def _formatMessage(self, msg, standardMsg):
        return super()._formatMessage(f"{self.file} {msg}", standardMsg)

    def test_files(self):
        for path in PACKAGE.rglob("*"):
            if "__pycache__" in path.parts:
                continue
            self.assertRegex(path.name, r"^[a-z0-9_]+\.py$")
            self.assertFalse(path.stem.startswith("test") or path.stem in dir(builtins), path.name)
        self.assertTrue((PACKAGE / "__init__.py").exists())

    def test_signs_and_sizes(self):
        for path, tree in self.each():
            text = path.read_bytes().decode("utf-8")
            self.assertRegex(text, r"^[ -~\n]*$")
            self.assertLessEqual(text.count("\n"), 400)
            self.assertTrue(all(len(row) <= 120 for row in text.split("\n")))
            for function in nodes(tree, ast.FunctionDef):
                self.assertLessEqual(function.end_lineno - function.lineno + 1, 40, function.name)

    def test_words(self):
        for path, tree in self.each():
            self.assertIsNone(WORDS.search(path.read_text(encoding="utf-8")))

    def test_forms(self):
        for path, tree in self.each():
            for node in ast.walk(tree):
                self.assertIn(node.__class__.__name__, NODES, getattr(node, "lineno", 0))
            for loop in nodes(tree, ast.For, ast.While):
                self.assertEqual(loop.orelse, [])
            for node in nodes(tree, ast.Assign):
                self.assertEqual(len(node.targets), 1)
            for node in nodes(tree, ast.ListComp):
                self.assertEqual(len(node.generators), 1)
                self.assertLessEqual(len(node.generators[0].ifs), 1)
            for node in nodes(tree, ast.Constant):
                self.assertNotIsInstance(node.value, (float, bytes, complex))
            for node in nodes(tree, ast.Try):
                self.assertEqual(node.finalbody, [])
                self.assertTrue(all(handler.type is not None for handler in node.handlers))

    def test_statements_by_themselves(self):
        for path, tree in self.each():
            for node in nodes(tree, ast.Expr):
                if node != tree.body[0]:
                    self.assertIsInstance(node.value, ast.Call, node.lineno)

    def test_functions_and_classes(self):
        for path, tree in self.each():
            for function in nodes(tree, ast.FunctionDef, ast.Lambda):
                given = function.args
                self.assertFalse(given.vararg or given.kwarg or given.kwonlyargs or given.posonlyargs)
            for function in nodes(tree, ast.FunctionDef):
                self.assertEqual(function.decorator_list, [])
            for made in nodes(tree, ast.ClassDef):
                self.assertIn(made, tree.body)
                self.assertFalse(made.decorator_list or made.keywords)
                self.assertLessEqual(len(made.bases), 1)
                self.assertTrue(all(isinstance(node, (ast.FunctionDef, ast.Pass)) for node in made.body))

    def test_imports(self):
        drawn = {}
        for path, tree in self.each():
            drawn[path.stem] = []
            for node in nodes(tree, ast.ImportFrom):
                self.assertIn(node, tree.body)
                self.assertEqual(node.level, 0)
                self.assertRegex(node.module, r"^stonewalker\.[a-z]+$")
                stem = node.module.split(".")[1]
                drawn[path.stem] += [stem, "__init__"]
                defined = tree_of(PACKAGE / (stem + ".py"))
                own = [item.name for item in defined.body if isinstance(item, (ast.FunctionDef, ast.ClassDef))]
                own += [name for item in defined.body if isinstance(item, ast.Assign)
                        for name in [item.targets[0].id]]
                for name in node.names:
                    self.assertIn(name.name, own)
        while drawn:
            ends = [stem for stem in drawn if not any(other in drawn for other in drawn[stem])]
            self.assertTrue(ends, "files draw from one another: " + repr(sorted(drawn)))
            drawn = {stem: drawn[stem] for stem in drawn if stem not in ends}

    def test_names(self):
        for path, tree in self.each():
            bound = top_names(tree)
            self.assertEqual(len(bound), len(set(bound)))
            apart = [node.name for node in nodes(tree, ast.ClassDef)]
            apart += [name.name for node in nodes(tree, ast.ImportFrom) for name in node.names]
            for name in local_names(tree):
                self.assertNotIn(name, apart)
                self.assertFalse(hasattr(builtins, name), name)
            known = set(bound) | set(local_names(tree)) | {node.name for node in nodes(tree, ast.FunctionDef)}
            known |= {node.name for node in nodes(tree, ast.ExceptHandler) if node.name}
            for name in nodes(tree, ast.Name):
                self.assertTrue(name.id in known or name.id in NAMES, name.id)
                self.assertNotIn(name.id, NOT_USED)
            for name in known - DUNDERS:
                self.assertRegex(name, r"^[A-Za-z][A-Za-z0-9_]*$")

    def test_methods(self):
        own = {node.name for path in files() for node in nodes(tree_of(path), ast.FunctionDef)}
        for path, tree in self.each():
            for call in nodes(tree, ast.Call):
                if isinstance(call.func, ast.Attribute):
                    self.assertIn(call.func.attr, METHODS | own, call.lineno)
            for node in nodes(tree, ast.Attribute):
                self.assertNotIn(node.attr, NOT_USED)

    def test_no_name_is_a_method_and_a_value(self):
        methods = set()
        values = set()
        for path in files():
            for made in nodes(tree_of(path), ast.ClassDef):
                own = [node.name for node in made.body if isinstance(node, ast.FunctionDef)]
                self.assertEqual(len(own), len(set(own)), made.name)
                methods |= set(own)
                values |= {node.attr for node in nodes(made, ast.Attribute) if isinstance(node.ctx, ast.Store)}
        self.assertEqual(methods & values, set())
        known = set(dir(str) + dir(int) + dir(list) + dir(dict) + dir(set) + dir(bytes) + dir(tuple))
        self.assertEqual((methods | values) & known - DUNDERS, set())

    def test_is_stands_beside_plain_values_alone(self):
        for path, tree in self.each():
            for node in nodes(tree, ast.Compare):
                sides = [node.left] + node.comparators
                for place, sign in enumerate(node.ops):
                    if isinstance(sign, (ast.Is, ast.IsNot)):
                        self.assertTrue(any(isinstance(side, ast.Constant) and side.value in (None, True, False)
                                            for side in sides[place:place + 2]), node.lineno)

    def test_walked_at_once(self):
        for path, tree in self.each():
            for node in nodes(tree, ast.Assign, ast.Return):
                value = node.value
                if isinstance(value, ast.Call) and isinstance(value.func, ast.Name):
                    self.assertNotIn(value.func.id, WALKED, node.lineno)


if __name__ == "__main__":
    unittest.main()
