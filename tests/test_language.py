"""The package's own files keep to the small part of Python that the program is written in."""

import ast
import builtins
import re
import unittest
from pathlib import Path

PACKAGE = Path(__file__).resolve().parent.parent / "snugfit"
NODES = set("""
    Module FunctionDef arguments arg ClassDef Return Assign AugAssign For While If Raise Try ExceptHandler Pass Break
    Continue Expr ImportFrom alias BoolOp And Or BinOp UnaryOp USub Not Lambda IfExp Dict ListComp comprehension Compare
    Call keyword Constant Attribute Subscript Slice List Tuple Name Load Store JoinedStr FormattedValue Add Sub Mult
    FloorDiv Mod Pow BitAnd BitOr BitXor LShift RShift Invert Eq NotEq Lt LtE Gt GtE Is IsNot In NotIn
    """.split())
BUILT_IN = set("""
    len range enumerate zip min max sum abs sorted reversed int str bool list tuple dict set frozenset isinstance ord
    repr any all divmod ValueError KeyError IndexError LookupError ZeroDivisionError StopIteration
    """.split())
METHODS = set("""
    append clear copy count endswith extend find get index insert isalnum isalpha isdigit islower isspace isupper items
    join keys ljust lower lstrip partition pop remove replace reverse rfind rjust rpartition rsplit rstrip setdefault
    split splitlines startswith strip update upper values zfill bit_length
    """.split())
WORDS = re.compile(
    r"\b(type|typing|typing_extensions|enum|Enum|IntEnum|StrEnum|Flag|IntFlag|Generic|Protocol|ABC|ABCMeta|namedtuple"
    r"|NamedTuple|TypedDict|TYPE_CHECKING|abstractmethod)\b|dataclass|overload|contextmanager")
PLAIN = re.compile(r"[A-Za-z][A-Za-z0-9_]*")


def files():
    return sorted(path for path in PACKAGE.rglob("*") if path.is_file() and "__pycache__" not in path.parts)


def trees():
    return [(path.name, ast.parse(path.read_text("utf-8"))) for path in files()]


def nodes(kind):
    return [(name, node) for name, tree in trees() for node in ast.walk(tree) if isinstance(node, kind)]


def bound_names(tree):
    bound = [node.name for node in ast.walk(tree) if isinstance(node, (ast.FunctionDef, ast.ClassDef))]
    bound += [node.arg for node in ast.walk(tree) if isinstance(node, ast.arg)]
    bound += [node.id for node in ast.walk(tree) if isinstance(node, ast.Name) and isinstance(node.ctx, ast.Store)]
    return bound


def own_values(tree):
    """The values that the objects have."""
    return [node.attr for node in ast.walk(tree) if isinstance(node, ast.Attribute) and isinstance(node.ctx, ast.Store)]


def imported_names(tree):
    return [alias.name for node in tree.body if isinstance(node, ast.ImportFrom) for alias in node.names]


class Language(unittest.TestCase):
    def test_files(self):
        for path in files():
            self.assertEqual(path.parent, PACKAGE)
            self.assertRegex(path.name, r"\A([a-z][a-z0-9_]*|__init__)\.py\Z")

    def test_signs_and_size(self):
        for path in files():
            text = path.read_text("utf-8")
            self.assertRegex(text, r"\A[ -~\n]*\Z", path.name)
            self.assertIsNone(WORDS.search(text), path.name)
            self.assertLessEqual(len(text.splitlines()), 400, path.name)
            self.assertLessEqual(max(len(line) for line in text.splitlines()), 120, path.name)
        for name, node in nodes(ast.FunctionDef):
            self.assertLessEqual(node.end_lineno - node.lineno + 1, 40, (name, node.name))

    def test_nothing_but_the_allowed_forms(self):
        for name, node in nodes(ast.AST):
            self.assertIn(type(node).__name__, NODES, (name, getattr(node, "lineno", 0)))
        for name, node in nodes(ast.Constant):
            self.assertIn(type(node.value), (int, str, bool, type(None)), (name, node.lineno))
        for name, node in nodes(ast.Assign):
            self.assertEqual(len(node.targets), 1, (name, node.lineno))
            self.assertNotIsInstance(node.targets[0], (ast.Tuple, ast.List), (name, node.lineno))
        for name, node in nodes((ast.For, ast.While)):
            self.assertEqual(node.orelse, [], (name, node.lineno))
        for name, node in nodes(ast.ListComp):
            self.assertEqual(len(node.generators), 1, (name, node.lineno))
            self.assertLessEqual(len(node.generators[0].ifs), 1, (name, node.lineno))

    def test_functions_are_plain(self):
        for name, node in nodes((ast.FunctionDef, ast.Lambda)):
            taken = node.args
            self.assertEqual((taken.vararg, taken.kwarg, taken.kwonlyargs, taken.posonlyargs), (None, None, [], []))
            self.assertEqual([part.annotation for part in taken.args if part.annotation], [], (name, node.lineno))
        for name, node in nodes(ast.FunctionDef):
            self.assertEqual((node.decorator_list, node.returns), ([], None), (name, node.lineno))

    def test_statements_by_themselves_are_calls(self):
        for name, tree in trees():
            told = [node for node in ast.walk(tree) if isinstance(node, ast.Expr)]
            for node in told:
                if node is not tree.body[0]:
                    self.assertIsInstance(node.value, ast.Call, (name, node.lineno))

    def test_the_top_of_a_file(self):
        for name, tree in trees():
            self.assertIsNotNone(ast.get_docstring(tree), name)
            kinds = (ast.ImportFrom, ast.FunctionDef, ast.ClassDef, ast.Assign)
            for node in tree.body[1:]:
                self.assertIsInstance(node, kinds, (name, node.lineno))
            if name == "__init__.py":
                self.assertEqual(len(tree.body), 1)

    def test_imports_are_the_packages_own(self):
        """So nothing can hang on a clock, chance or files."""
        for name, node in nodes(ast.ImportFrom):
            self.assertEqual(node.level, 0, name)
            self.assertRegex(node.module, r"\Asnugfit\.[a-z]+\Z")
            defined = bound_names(ast.parse((PACKAGE / (node.module.split(".")[1] + ".py")).read_text("utf-8")))
            for alias in node.names:
                self.assertIsNone(alias.asname, name)
                self.assertIn(alias.name, defined, name)

    def test_no_import_is_idle_or_leads_back(self):
        drawn = {}
        for name, tree in trees():
            used = [node.id for node in ast.walk(tree) if isinstance(node, ast.Name)]
            used += [base.id for node in ast.walk(tree) if isinstance(node, ast.ClassDef) for base in node.bases]
            for word in imported_names(tree):
                self.assertIn(word, used, name)
            drawn[name[:-3]] = {node.module.split(".")[1] for node in tree.body if isinstance(node, ast.ImportFrom)}
        while drawn:
            leaves = [name for name in drawn if not drawn[name] & set(drawn)]
            self.assertTrue(leaves, drawn)
            drawn = {name: drawn[name] for name in drawn if name not in leaves}

    def test_the_values_of_objects(self):
        taken = set(dir(str) + dir(int) + dir(list) + dir(dict) + dir(set) + dir(bytes) + ["args"])
        parts = [part for _, node in nodes(ast.ClassDef) for part in node.body]
        methods = {part.name for part in parts if isinstance(part, ast.FunctionDef)}
        for name, tree in trees():
            for word in own_values(tree):
                self.assertRegex(word, PLAIN, name)
                self.assertNotIn(word, taken | methods, name)
        for name, node in nodes((ast.Assign, ast.AugAssign)):
            for target in node.targets if isinstance(node, ast.Assign) else [node.target]:
                if isinstance(target, ast.Attribute):
                    self.assertIsInstance(target.value, ast.Name, (name, node.lineno))

    def test_each_name_once_at_the_top(self):
        for name, tree in trees():
            top = [node.name for node in tree.body if isinstance(node, (ast.FunctionDef, ast.ClassDef))]
            top += imported_names(tree)
            self.assertEqual(len(top), len(set(top)), name)

    def test_names(self):
        valued = [word for _, tree in trees() for word in own_values(tree)]
        for name, tree in trees():
            bound = bound_names(tree)
            for word in bound:
                if re.fullmatch("__(init|eq|repr|str|len)__", word):
                    continue
                self.assertIsNotNone(PLAIN.fullmatch(word), word)
                self.assertFalse(hasattr(builtins, word), (name, word))
                self.assertNotIn(word, imported_names(tree), name)
            known = BUILT_IN | set(bound) | set(imported_names(tree))
            for node in ast.walk(tree):
                if isinstance(node, ast.Name):
                    self.assertIn(node.id, known, (name, node.lineno))
                if isinstance(node, ast.Attribute):
                    self.assertIn(node.attr, METHODS | set(bound + valued), (name, node.lineno))
