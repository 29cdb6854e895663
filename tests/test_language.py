"""Rules of LANGUAGE.md that the text of the package shows."""

import ast
import builtins
import re
import unittest
from pathlib import Path

TOP = Path(__file__).resolve().parent.parent
PACKAGE = TOP / "onefacers"

ALLOWED_BUILTINS = """len range enumerate zip min max sum abs sorted reversed int str bool bytes list tuple dict set
isinstance ord repr any all divmod super Exception ValueError TypeError KeyError IndexError LookupError
ZeroDivisionError ArithmeticError OverflowError RuntimeError NotImplementedError AttributeError""".split()

BUILTIN_METHODS = """append clear copy count endswith extend find get index insert isalnum isalpha isdigit islower
isspace isupper items join keys ljust lower lstrip partition pop remove replace reverse rfind rjust rpartition rsplit
rstrip setdefault split splitlines startswith strip update upper values zfill bit_length isascii removeprefix
removesuffix""".split()

BARRED_METHODS = [name for kind in (str, int, list, dict, set, tuple, bytes) for name in vars(kind)
                  if not name.startswith("_") and name not in BUILTIN_METHODS]

BARRED_WORDS = re.compile(r"\b(type|typing|enum|Enum|Generic|Protocol|ABC|namedtuple|NamedTuple|TypedDict)\b"
                          r"|dataclass|overload|contextmanager|_wall|_WallAttr")

DOUBLE = ("__init__", "__eq__", "__repr__", "__str__", "__len__")

BARRED_NODES = (ast.Global, ast.AsyncFunctionDef, ast.Await, ast.SetComp, ast.Nonlocal, ast.Match, ast.With,
                ast.Div, ast.Import, ast.AnnAssign, ast.NamedExpr, ast.YieldFrom, ast.Yield, ast.Lambda)


def files():
    return sorted(PACKAGE.rglob("*.py"))


def nodes(kind):
    """Each node of a kind, with the file's name."""
    for path in files():
        for node in ast.walk(ast.parse(path.read_text())):
            if isinstance(node, kind):
                yield path.name, node


def functions_above(path, node):
    """The names of a file's functions that are defined above a node."""
    return [one.name for one in ast.parse(path.read_text()).body
            if isinstance(one, ast.FunctionDef) and one.lineno < node.lineno]


def is_plain(value, functions):
    """Whether a value at module level is plain: no list or dict within another value, no call, no operator."""
    def is_within(one):
        if isinstance(one, ast.Tuple):
            return all(is_within(part) for part in one.elts)
        return isinstance(one, ast.Constant) or (isinstance(one, ast.Name) and one.id in functions)
    if isinstance(value, ast.UnaryOp):
        return isinstance(value.op, ast.USub) and isinstance(value.operand, ast.Constant)
    if isinstance(value, ast.Dict):
        return all(isinstance(key, ast.Constant) for key in value.keys) and all(is_within(one) for one in value.values)
    return is_within(value)


class Texts(unittest.TestCase):
    def test_files(self):
        self.assertTrue((PACKAGE / "__init__.py").exists())
        for path in PACKAGE.iterdir():
            if path.name != "__pycache__":
                self.assertRegex(path.name, r"\A[a-z_]+\.py\Z")
                self.assertTrue(path.is_file())

    def test_lines(self):
        for path in files():
            text = path.read_text()
            lines = text.split("\n")
            self.assertLessEqual(len(lines), 399, path.name)
            self.assertLessEqual(max(len(line) for line in lines), 120, path.name)
            self.assertEqual([sign for sign in text if sign != "\n" and not " " <= sign <= "~"], [], path.name)
            self.assertEqual([line for line in lines if line != line.rstrip()], [], path.name)

    def test_functions_are_small(self):
        for name, node in nodes(ast.FunctionDef):
            self.assertLessEqual(node.end_lineno - node.lineno + 1, 40, (name, node.name))
            self.assertEqual(node.decorator_list, [], (name, node.name))

    def test_barred_words(self):
        for path in files():
            self.assertIsNone(BARRED_WORDS.search(path.read_text()), path.name)

    def test_no_percent_sign_and_no_float(self):
        for name, node in nodes(ast.Constant):
            self.assertIsInstance(node.value, (str, int, type(None)), (name, node.lineno))
            if isinstance(node.value, str):
                self.assertNotIn("%", node.value, (name, node.lineno))


class Names(unittest.TestCase):
    def test_imports(self):
        for name, node in nodes(ast.ImportFrom):
            self.assertEqual(node.level, 0, name)
            self.assertTrue((TOP / (node.module.replace(".", "/") + ".py")).exists(), (name, node.module))
            self.assertEqual([one.asname for one in node.names], [None] * len(node.names), name)
            tree = ast.parse((TOP / (node.module.replace(".", "/") + ".py")).read_text())
            bound = [one.name for one in tree.body if isinstance(one, (ast.FunctionDef, ast.ClassDef))]
            bound += [target.id for one in tree.body if isinstance(one, ast.Assign) for target in one.targets]
            for one in node.names:
                self.assertIn(one.name, bound, (name, node.module))

    def test_each_import_is_used(self):
        for path in files():
            tree = ast.parse(path.read_text())
            used = {node.id for node in ast.walk(tree) if isinstance(node, ast.Name)}
            for node in ast.walk(tree):
                if isinstance(node, ast.ImportFrom):
                    self.assertEqual([one.name for one in node.names if one.name not in used], [], path.name)

    def test_builtins(self):
        for name, node in nodes(ast.Name):
            if node.id in vars(builtins):
                self.assertIn(node.id, ALLOWED_BUILTINS, (name, node.lineno))
                self.assertIsInstance(node.ctx, ast.Load, (name, node.lineno))
        for name, node in nodes(ast.arg):
            self.assertNotIn(node.arg, vars(builtins), name)
            self.assertIsNone(node.annotation)
        for name, node in nodes((ast.FunctionDef, ast.ClassDef)):
            self.assertNotIn(node.name, vars(builtins), name)

    def test_names_are_plain(self):
        for name, node in nodes((ast.Name, ast.arg, ast.FunctionDef, ast.ClassDef, ast.Attribute)):
            told = [getattr(node, field) for field in ("id", "arg", "name", "attr") if hasattr(node, field)][0]
            if told not in DOUBLE:
                self.assertRegex(told, r"\A(_?[A-Za-z][A-Za-z0-9_]*|_)\Z", name)

    def test_no_local_has_the_name_of_an_import_or_a_class(self):
        for path in files():
            tree = ast.parse(path.read_text())
            taken = {one.name for node in ast.walk(tree) if isinstance(node, ast.ImportFrom) for one in node.names}
            taken |= {node.name for node in tree.body if isinstance(node, (ast.ClassDef, ast.FunctionDef))}
            for node in ast.walk(tree):
                if isinstance(node, ast.arg):
                    self.assertNotIn(node.arg, taken, path.name)
                if isinstance(node, ast.Name) and isinstance(node.ctx, ast.Store):
                    self.assertNotIn(node.id, taken, path.name)

    def test_methods_and_attributes(self):
        methods = {}
        for name, node in nodes(ast.ClassDef):
            own = [one.name for one in node.body if isinstance(one, ast.FunctionDef)]
            self.assertEqual(len(own), len(set(own)), (name, node.name))
            held = {one.attr for one in ast.walk(node)
                    if isinstance(one, ast.Attribute) and isinstance(one.ctx, ast.Store)}
            self.assertEqual(held & set(own), set(), (name, node.name))
            methods[node.name] = own
            for one in [*own, *held]:
                self.assertNotIn(one, BARRED_METHODS, (name, node.name))
                self.assertTrue(not one.startswith("__") or one in DOUBLE, (name, one))
        own = {one for row in methods.values() for one in row}
        for name, node in nodes(ast.Call):
            if isinstance(node.func, ast.Attribute):
                self.assertIn(node.func.attr, {*own, *BUILTIN_METHODS}, (name, node.lineno))


class Statements(unittest.TestCase):
    def test_barred_nodes(self):
        for name, node in nodes(BARRED_NODES):
            self.fail(f"{name} {node.lineno}: {node.__class__.__name__}")

    def test_module_level(self):
        for path in files():
            for at, node in enumerate(ast.parse(path.read_text()).body):
                if at == 0:
                    self.assertIsInstance(node, ast.Expr, path.name)
                    self.assertIsInstance(node.value, ast.Constant, path.name)
                else:
                    self.assertIsInstance(node, (ast.ImportFrom, ast.FunctionDef, ast.ClassDef, ast.Assign), path.name)
                if isinstance(node, ast.Assign):
                    self.assertEqual(len(node.targets), 1)
                    self.assertTrue(is_plain(node.value, functions_above(path, node)), (path.name, node.lineno))

    def test_any_all_and_their_kin_take_lists(self):
        for name, node in nodes(ast.GeneratorExp):
            self.fail(f"{name} {node.lineno}")

    def test_is_stands_with_none_alone(self):
        for name, node in nodes(ast.Compare):
            for sign, right in zip(node.ops, node.comparators):
                if isinstance(sign, (ast.Is, ast.IsNot)):
                    self.assertIsInstance(right, ast.Constant, (name, node.lineno))

    def test_what_stands_in_a_finally(self):
        for name, node in nodes(ast.Try):
            for one in node.finalbody:
                self.assertIsInstance(one, (ast.Assign, ast.Expr), (name, one.lineno))
                for part in ast.walk(one):
                    self.assertNotIsInstance(part, (ast.BinOp, ast.UnaryOp, ast.Subscript, ast.Dict, ast.JoinedStr),
                                             (name, one.lineno))
                    if isinstance(part, ast.Call):
                        self.assertIsInstance(part.func, ast.Attribute, (name, one.lineno))
                        self.assertEqual(part.func.attr, "append", (name, one.lineno))

    def test_handlers_name_own_errors(self):
        for name, node in nodes(ast.ExceptHandler):
            caught = node.elts if isinstance(node, ast.Tuple) else [node.type]
            for one in caught:
                for part in ast.walk(one):
                    if isinstance(part, ast.Name):
                        self.assertNotIn(part.id, vars(builtins), (name, node.lineno))


if __name__ == "__main__":
    unittest.main()
