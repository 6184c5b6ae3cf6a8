"""A part of the rules that the package's own files keep to: what a small walk over each file can see."""

import ast
import builtins
import pathlib
import re
import unittest

ROOT = pathlib.Path(__file__).resolve().parent.parent
PACKAGE = ROOT / "beamload"
FORMS = """
    Module FunctionDef ClassDef arguments arg Lambda Assign AugAssign If While For Return Break Continue Pass Raise
    Try ExceptHandler Expr ImportFrom alias Constant List Tuple Dict BinOp UnaryOp BoolOp Compare IfExp Call keyword
    Attribute Subscript Slice ListComp comprehension JoinedStr FormattedValue Name Load Store Set
    Add Sub Mult FloorDiv Mod Pow BitAnd BitOr BitXor LShift RShift Invert UAdd USub Not And Or
    Eq NotEq Lt LtE Gt GtE Is IsNot In NotIn
""".split()
WORDS = """
    type typing typing_extensions enum Enum IntEnum StrEnum Flag IntFlag Generic Protocol ABC ABCMeta namedtuple
    NamedTuple TypedDict TYPE_CHECKING abstractmethod
""".split()
OWN_NAMES = """
    len range enumerate zip min max sum abs sorted reversed int str bool list tuple dict set isinstance ord repr any all
    divmod ValueError KeyError
""".split()
OWN_METHODS = """
    append clear copy count endswith extend find get index insert isalnum isalpha isdigit islower isspace isupper items
    join keys ljust lower lstrip partition pop remove replace reverse rfind rjust rpartition rsplit rstrip setdefault
    split splitlines startswith strip update upper values zfill bit_length
""".split()
TWO_UNDERSCORES = ("__init__", "__eq__", "__repr__", "__str__", "__len__", "__all__", "__version__", "__name__")


def package_files():
    return sorted(path for path in PACKAGE.rglob("*") if path.is_file() and "__pycache__" not in path.parts)


def names_of(node):
    for field in ("id", "attr", "name", "arg"):
        name = getattr(node, field, None)
        if isinstance(name, str):
            yield name


class TestForm(unittest.TestCase):
    def walk(self):
        for path in package_files():
            for node in ast.walk(ast.parse(path.read_text(encoding="utf-8"))):
                yield f"{path.name}:{getattr(node, 'lineno', 0)}", node

    def test_files(self):
        self.assertIn(PACKAGE / "__init__.py", package_files())
        for path in package_files():
            self.assertRegex(path.name, r"\A(__init__|[a-z][a-z0-9_]*)\.py\Z")

    def test_signs_and_sizes(self):
        for path in package_files():
            rows = path.read_bytes().decode("ascii").split("\n")
            self.assertLessEqual(len(rows), 401, path.name)
            for number, row in enumerate(rows, start=1):
                self.assertLessEqual(len(row), 120, (path.name, number))
                self.assertRegex(row, r"\A[ -~]*\Z", (path.name, number))

    def test_words(self):
        for path in package_files():
            text = path.read_text(encoding="utf-8")
            self.assertEqual([word for word in WORDS if re.search(rf"\b{word}\b", text)], [], path.name)
            self.assertIsNone(re.search("dataclass|overload|contextmanager", text), path.name)

    def test_forms_of_the_language(self):
        for where, node in self.walk():
            self.assertIn(type(node).__name__, FORMS, where)
            if isinstance(node, ast.FunctionDef):
                self.assertLessEqual(node.end_lineno - node.lineno + 1, 40, where)
                self.assertEqual(node.decorator_list, [], where)
            if isinstance(node, ast.Constant):
                self.assertNotIsInstance(node.value, (float, complex, bytes), where)
            if isinstance(node, ast.Assign):
                self.assertEqual(len(node.targets), 1, where)

    def test_names_and_imports(self):
        for where, node in self.walk():
            for name in names_of(node):
                self.assertTrue(name in TWO_UNDERSCORES or not name.startswith("_"), (where, name))
            if isinstance(node, ast.ImportFrom):
                self.assertEqual(node.level, 0, where)
                self.assertTrue(node.module.startswith("beamload."), where)
                self.assertNotIn("*", [drawn.name for drawn in node.names], where)

    def test_names_and_methods_of_pythons_own(self):
        methods = {node.name for where, node in self.walk() if isinstance(node, ast.FunctionDef)}
        for where, node in self.walk():
            if isinstance(node, ast.Name) and node.id in dir(builtins):
                self.assertIn(node.id, OWN_NAMES, where)
                self.assertIsInstance(node.ctx, ast.Load, where)
            if isinstance(node, ast.arg):
                self.assertNotIn(node.arg, dir(builtins), where)
            if isinstance(node, ast.Call) and isinstance(node.func, ast.Attribute):
                self.assertIn(node.func.attr, methods.union(OWN_METHODS), where)

    def test_no_local_is_called_like_what_stands_at_the_top(self):
        for path in package_files():
            tree = ast.parse(path.read_text(encoding="utf-8"))
            top = [name for node in tree.body for name in getattr(node, "names", [node])]
            taken = [name for node in top for name in names_of(node)]
            self.assertEqual(len(taken), len(set(taken)), path.name)
            for node in ast.walk(tree):
                if isinstance(node, ast.arg):
                    self.assertNotIn(node.arg, taken, (path.name, node.lineno))
                if isinstance(node, ast.Name) and isinstance(node.ctx, ast.Store):
                    self.assertNotIn(node.id, taken, (path.name, node.lineno))

    def test_no_name_is_a_method_and_a_value(self):
        methods, values = set(), set()
        for where, node in self.walk():
            if isinstance(node, ast.ClassDef):
                methods.update(part.name for part in node.body if isinstance(part, ast.FunctionDef))
                self.assertLessEqual(len(node.bases), 1, where)
            if isinstance(node, ast.Attribute) and isinstance(node.ctx, ast.Store):
                values.add(node.attr)
        self.assertEqual(methods & values, set())
        for kind in (str, int, list, dict, set, bytes):
            self.assertEqual([name for name in methods | values if name in dir(kind) and name != "__init__"], [])

    def test_a_text_by_itself_stands_at_the_top_of_a_file_alone(self):
        for path in package_files():
            tree = ast.parse(path.read_text(encoding="utf-8"))
            self.assertIsNotNone(ast.get_docstring(tree), path.name)
            for node in ast.walk(tree):
                if isinstance(node, ast.Expr) and node is not tree.body[0]:
                    self.assertIsInstance(node.value, ast.Call, (path.name, node.lineno))

    def test_no_two_files_draw_from_one_another(self):
        drawn = {}
        for path in package_files():
            tree = ast.parse(path.read_text(encoding="utf-8"))
            rows = [node for node in tree.body if isinstance(node, ast.ImportFrom)]
            drawn["beamload." + path.stem] = {node.module for node in rows}
        while drawn:
            free = [name for name in drawn if not drawn[name] & set(drawn)]
            self.assertNotEqual(free, [], sorted(drawn))
            for name in free:
                drawn.pop(name)


if __name__ == "__main__":
    unittest.main()
