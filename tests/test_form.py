"""The package's files held against the rules of form that a look at their text or their tree can tell."""

import ast
import pathlib
import re
import unittest

import graphwaves

FOLDER = pathlib.Path(graphwaves.__file__).parent

# Python's own names that may stand in the package.
OWN_NAMES = set("""
len range enumerate zip min max sum abs sorted reversed int str bool list tuple dict set frozenset isinstance ord repr
any all divmod Exception ValueError TypeError KeyError IndexError LookupError ZeroDivisionError ArithmeticError
OverflowError RuntimeError NotImplementedError AttributeError StopIteration True False None
""".split())

METHODS = set("""
append clear copy count endswith extend find get index insert isalnum isalpha isdigit islower isspace isupper items join
keys ljust lower lstrip partition pop remove replace reverse rfind rjust rpartition rsplit rstrip setdefault split
splitlines startswith strip update upper values zfill bit_length
""".split())

STATEMENTS = (
    ast.Assign, ast.AugAssign, ast.If, ast.While, ast.For, ast.Return, ast.Break, ast.Continue, ast.Pass, ast.Raise,
    ast.Try, ast.Expr, ast.FunctionDef, ast.ClassDef, ast.ImportFrom,
)

EXPRESSIONS = (
    ast.Constant, ast.List, ast.Tuple, ast.Dict, ast.Set, ast.BinOp, ast.UnaryOp, ast.BoolOp, ast.Compare, ast.IfExp,
    ast.Call, ast.Attribute, ast.Subscript, ast.Slice, ast.ListComp, ast.JoinedStr, ast.FormattedValue, ast.Name,
    ast.Lambda,
)

WORDS = re.compile(
    r"\b(type|typing|typing_extensions|enum|Enum|IntEnum|StrEnum|Flag|IntFlag|Generic|Protocol|ABC|ABCMeta|namedtuple"
    r"|NamedTuple|TypedDict|TYPE_CHECKING|abstractmethod)\b|dataclass|overload|contextmanager"
)

UNUSED = set("register mro elements open input version_info with_traceback add_note format format_map".split())


def modules():
    return {path.name: path.read_text(encoding="utf-8") for path in sorted(FOLDER.glob("*.py"))}


def trees():
    return {name: ast.parse(text) for name, text in modules().items()}


def nodes(*kinds):
    return [(name, node) for name, tree in trees().items() for node in ast.walk(tree) if isinstance(node, kinds)]


def bound_names(tree):
    """All names that a file binds."""
    names = set()
    for node in ast.walk(tree):
        if isinstance(node, ast.Name) and isinstance(node.ctx, ast.Store):
            names.add(node.id)
        elif isinstance(node, (ast.FunctionDef, ast.ClassDef)):
            names.add(node.name)
        elif isinstance(node, ast.arg):
            names.add(node.arg)
        elif isinstance(node, ast.alias):
            names.add(node.asname or node.name)
    return names


class Files(unittest.TestCase):
    def test_only_plain_files_lie_in_the_package(self):
        for path in FOLDER.iterdir():
            if path.name != "__pycache__":
                self.assertRegex(path.name, r"^([a-z][a-z0-9_]*|__init__|__main__)\.py$")
        self.assertIn("__init__.py", modules())

    def test_size_and_signs(self):
        for name, text in modules().items():
            lines = text.split("\n")
            self.assertLessEqual(len(lines) - 1, 400, name)
            for line in lines:
                self.assertLessEqual(len(line), 120, (name, line))
                self.assertRegex(line, r"^[ -~]*$", name)

    def test_words_that_stand_nowhere(self):
        for name, text in modules().items():
            self.assertIsNone(WORDS.search(text), name)

    def test_functions_have_at_most_40_lines(self):
        for name, node in nodes(ast.FunctionDef):
            self.assertLessEqual(node.end_lineno - node.lineno + 1, 40, (name, node.name))


class Imports(unittest.TestCase):
    def drawn(self):
        """Which files each file draws from."""
        drawn = {}
        for name, tree in trees().items():
            drawn[name] = []
            for node in ast.walk(tree):
                if isinstance(node, ast.ImportFrom):
                    self.assertEqual(node.level, 0, name)
                    self.assertIn(node, tree.body)
                    self.assertRegex(node.module, r"^graphwaves\.[a-z0-9_]+$")
                    file = node.module.split(".")[1] + ".py"
                    defined = bound_names(ast.Module(
                        [part for part in trees()[file].body if not isinstance(part, ast.ImportFrom)], []))
                    for alias in node.names:
                        self.assertIn(alias.name, defined, (name, node.module))
                    drawn[name].append(file)
        return drawn

    def test_from_the_file_that_defines_the_name(self):
        self.assertEqual(nodes(ast.Import), [])
        self.drawn()

    def test_no_two_files_draw_from_one_another(self):
        drawn = self.drawn()
        self.assertEqual(drawn["__init__.py"], [])
        while drawn:
            free = [name for name in drawn if not set(drawn[name]) & set(drawn)]
            self.assertNotEqual(free, [], drawn)
            for name in free:
                drawn.pop(name)


class Tree(unittest.TestCase):
    def test_statements(self):
        for name, node in nodes(ast.stmt):
            self.assertIsInstance(node, STATEMENTS, (name, node.lineno))
            if isinstance(node, ast.Assign):
                self.assertEqual(len(node.targets), 1, (name, node.lineno))
                self.assertNotIsInstance(node.targets[0], (ast.Tuple, ast.List), (name, node.lineno))
            if isinstance(node, (ast.For, ast.While)):
                self.assertEqual(node.orelse, [], (name, node.lineno))
            if isinstance(node, ast.Expr) and not isinstance(node.value, ast.Call):
                self.assertIsInstance(node.value.value, str, (name, node.lineno))

    def test_expressions(self):
        for name, node in nodes(ast.expr):
            self.assertIsInstance(node, EXPRESSIONS, (name, node.lineno))
            if isinstance(node, ast.Constant):
                self.assertIn(type(node.value), (int, str, bool, type(None)), (name, node.lineno))
            if isinstance(node, ast.BinOp):
                self.assertNotIsInstance(node.op, (ast.Div, ast.Pow, ast.MatMult), (name, node.lineno))
            if isinstance(node, ast.ListComp):
                self.assertEqual(len(node.generators), 1, (name, node.lineno))
                self.assertLessEqual(len(node.generators[0].ifs), 1, (name, node.lineno))

    def test_is_stands_beside_none_true_and_false(self):
        for name, node in nodes(ast.Compare):
            if isinstance(node.ops[0], (ast.Is, ast.IsNot)):
                self.assertIsInstance(node.comparators[0], ast.Constant, (name, node.lineno))

    def test_functions(self):
        for name, node in nodes(ast.FunctionDef, ast.Lambda):
            given = node.args
            self.assertFalse(given.vararg or given.kwarg or given.kwonlyargs or given.posonlyargs, (name, node.lineno))
        for name, node in nodes(ast.FunctionDef, ast.ClassDef):
            self.assertEqual(node.decorator_list, [], (name, node.name))

    def test_classes(self):
        for name, node in nodes(ast.ClassDef):
            self.assertLessEqual(len(node.bases), 1, (name, node.name))
            for part in node.body:
                self.assertIsInstance(part, (ast.FunctionDef, ast.Expr), (name, node.name))

    def test_the_top_of_a_file(self):
        kinds = (ast.Expr, ast.ImportFrom, ast.FunctionDef, ast.ClassDef, ast.Assign)
        for name, tree in trees().items():
            bound = [part.targets[0].id if isinstance(part, ast.Assign) else part.name
                     for part in tree.body if isinstance(part, kinds[2:])]
            self.assertEqual(len(bound), len(set(bound)), name)
            for part in tree.body:
                self.assertIsInstance(part, kinds, name)


class Names(unittest.TestCase):
    def test_plain_names_that_are_not_pythons_own(self):
        builtin = set(dir(__builtins__) if not isinstance(__builtins__, dict) else __builtins__)
        for name, tree in trees().items():
            for bound in bound_names(tree):
                if bound != "__init__":
                    self.assertRegex(bound, r"^[A-Za-z][A-Za-z0-9_]*$", name)
                    self.assertNotIn(bound, builtin | OWN_NAMES | UNUSED, name)

    def test_names_read_are_bound_in_the_file_or_allowed(self):
        for name, tree in trees().items():
            allowed = bound_names(tree) | OWN_NAMES
            for node in ast.walk(tree):
                if isinstance(node, ast.Name):
                    self.assertIn(node.id, allowed, (name, node.lineno))

    def test_methods_are_the_packages_own_or_allowed(self):
        own = {node.name for name, node in nodes(ast.FunctionDef)}
        for name, node in nodes(ast.Call):
            if isinstance(node.func, ast.Attribute):
                self.assertIn(node.func.attr, own | METHODS, (name, node.lineno))
        for name, node in nodes(ast.Attribute):
            self.assertNotIn(node.attr, UNUSED, (name, node.lineno))
            self.assertFalse(node.attr.startswith("_") and node.attr != "__init__", (name, node.lineno))

    def test_no_parameter_or_local_is_called_like_an_import(self):
        for name, tree in trees().items():
            imported = {alias.name for node in tree.body if isinstance(node, ast.ImportFrom) for alias in node.names}
            local = {node.id for node in ast.walk(tree)
                     if isinstance(node, ast.Name) and isinstance(node.ctx, ast.Store)}
            local |= {node.arg for node in ast.walk(tree) if isinstance(node, ast.arg)}
            self.assertEqual(imported & local, set(), name)


if __name__ == "__main__":
    unittest.main()
