"""The package's files against LANGUAGE.md, as far as a walk over their syntax trees can see its rules."""

import ast
import builtins
import re
import unittest
from pathlib import Path

PACKAGE = Path(__file__).resolve().parent.parent / "boughback"
FILES = sorted(PACKAGE.glob("*.py"))

STATEMENTS = (ast.FunctionDef, ast.ClassDef, ast.ImportFrom, ast.Assign, ast.AugAssign, ast.If, ast.While, ast.For,
              ast.Return, ast.Break, ast.Continue, ast.Pass, ast.Raise, ast.Try, ast.Expr)
EXPRESSIONS = (ast.Constant, ast.List, ast.Tuple, ast.Dict, ast.BinOp, ast.UnaryOp, ast.BoolOp, ast.Compare, ast.IfExp,
               ast.Call, ast.Attribute, ast.Subscript, ast.Slice, ast.ListComp, ast.Lambda, ast.Name, ast.JoinedStr,
               ast.FormattedValue)
OWN_NAMES = set("""len range enumerate zip min max sum abs sorted reversed int str bool list tuple dict set frozenset
    isinstance ord repr any all divmod Exception ValueError TypeError KeyError IndexError LookupError ZeroDivisionError
    ArithmeticError OverflowError RuntimeError NotImplementedError AttributeError StopIteration""".split())
OWN_METHODS = set("""append clear copy count endswith extend find get index insert isalnum isalpha isdigit islower
    isspace isupper items join keys ljust lower lstrip partition pop remove replace reverse rfind rjust rpartition
    rsplit rstrip setdefault split splitlines startswith strip update upper values zfill bit_length""".split())
DOUBLE = {"__init__", "__eq__", "__repr__", "__str__", "__len__"}
WORDS = re.compile(r"\b(type|typing|typing_extensions|enum|Enum|IntEnum|StrEnum|Flag|IntFlag|Generic|Protocol|ABC|"
                   r"ABCMeta|namedtuple|NamedTuple|TypedDict|TYPE_CHECKING|abstractmethod)\b|"
                   r"dataclass|overload|contextmanager")
WALKED = {"zip", "enumerate", "reversed", "range", "items", "keys", "values"}
WALKERS = {"list", "tuple", "dict", "sorted", "sum", "any", "all", "enumerate", "zip", "min", "max", "join"}
UNUSED = set("""register mro elements open input version_info with_traceback add_note""".split())


def tree_of(file):
    return ast.parse(file.read_text(encoding="utf-8"))


def own_methods():
    """The names of all methods that the package's classes have."""
    found = set()
    for file in FILES:
        for node in ast.walk(tree_of(file)):
            if isinstance(node, ast.ClassDef):
                found.update(each.name for each in node.body if isinstance(each, ast.FunctionDef))
    return found


def bound_names(tree):
    """All names that the file binds, wherever, without methods and values of objects."""
    for node in ast.walk(tree):
        if isinstance(node, ast.Name) and isinstance(node.ctx, ast.Store):
            yield node.id
        elif isinstance(node, ast.arg):
            yield node.arg
        elif isinstance(node, ast.ExceptHandler) and node.name:
            yield node.name
        elif isinstance(node, ast.ImportFrom):
            for alias in node.names:
                yield alias.asname or alias.name
    for node in tree.body:
        if isinstance(node, (ast.FunctionDef, ast.ClassDef)):
            yield node.name


def called_name(node):
    """The name by which a call calls, that of a function or of a method; None of what is no call."""
    if not isinstance(node, ast.Call):
        return None
    return node.func.id if isinstance(node.func, ast.Name) else node.func.attr


class Language(unittest.TestCase):
    def each_node(self):
        for file in FILES:
            for node in ast.walk(tree_of(file)):
                yield f"{file.name}:{getattr(node, 'lineno', 0)}", node

    def test_files(self):
        self.assertIn(PACKAGE / "__init__.py", FILES)
        for each in PACKAGE.iterdir():
            if each.name != "__pycache__":
                self.assertRegex(each.name, r"\A[a-z0-9_]+\.py\Z")

    def test_signs_and_sizes(self):
        for file in FILES:
            text = file.read_bytes().decode("ascii")
            self.assertRegex(text, r"\A[ -~\n]*\Z", file.name)
            self.assertLessEqual(len(text.splitlines()), 400, file.name)
            self.assertLessEqual(max(map(len, text.splitlines())), 120, file.name)
            self.assertIsNone(WORDS.search(text), file.name)
        for where, node in self.each_node():
            if isinstance(node, ast.FunctionDef):
                self.assertLessEqual(node.end_lineno - node.lineno + 1, 40, where)

    def test_statements_and_expressions(self):
        for where, node in self.each_node():
            if isinstance(node, ast.stmt):
                self.assertIsInstance(node, STATEMENTS, where)
                self.assertFalse(isinstance(node, (ast.For, ast.While)) and node.orelse, where)
                self.assertFalse(isinstance(node, ast.Try) and node.finalbody, where)
                self.assertFalse(isinstance(node, ast.Assign) and len(node.targets) > 1, where)
            elif isinstance(node, ast.expr):
                self.assertIsInstance(node, EXPRESSIONS, where)
            self.assertNotIsInstance(node, (ast.Div, ast.MatMult), where)
            if isinstance(node, ast.Constant):
                self.assertNotIsInstance(node.value, (float, complex, bytes), where)
                self.assertFalse(isinstance(node.value, str) and "%" in node.value, where)
            if isinstance(node, ast.ListComp):
                self.assertTrue(len(node.generators) == 1 and len(node.generators[0].ifs) <= 1, where)
            if isinstance(node, ast.Compare) and any(isinstance(op, (ast.Is, ast.IsNot)) for op in node.ops):
                self.assertTrue(isinstance(node.comparators[0], ast.Constant), where)

    def test_functions_and_classes(self):
        for where, node in self.each_node():
            if isinstance(node, (ast.FunctionDef, ast.ClassDef)):
                self.assertEqual(node.decorator_list, [], where)
            if isinstance(node, (ast.FunctionDef, ast.Lambda)):
                self.assertIsNone(node.args.vararg or node.args.kwarg, where)
                self.assertEqual(node.args.kwonlyargs + node.args.posonlyargs, [], where)
            if isinstance(node, ast.ClassDef):
                self.assertLessEqual(len(node.bases), 1, where)
                names = [each.name for each in node.body[1:]]
                self.assertEqual(len(set(names)), len(names), where)

    def test_imports(self):
        draws = {}
        for file in FILES:
            tree = tree_of(file)
            draws[file.stem] = []
            for node in ast.walk(tree):
                if isinstance(node, ast.ImportFrom):
                    self.assertIn(node, tree.body)
                    self.assertEqual(node.level, 0)
                    package, module = node.module.split(".")
                    self.assertEqual(package, "boughback")
                    source = tree_of(PACKAGE / (module + ".py"))
                    defined = {each.name for each in source.body if isinstance(each, (ast.FunctionDef, ast.ClassDef))}
                    defined.update(each.targets[0].id for each in source.body if isinstance(each, ast.Assign))
                    self.assertLessEqual({alias.name for alias in node.names}, defined, file.name)
                    draws[file.stem].append(module)
        while draws:
            free = [module for module in draws if not set(draws[module]) & set(draws)]
            self.assertTrue(free, "modules draw from one another: " + " ".join(draws))
            for module in free:
                del draws[module]

    def test_names(self):
        for file in FILES:
            tree = tree_of(file)
            bound = list(bound_names(tree))
            for name in bound:
                self.assertRegex(name, r"\A[A-Za-z][A-Za-z0-9_]*\Z", file.name)
                self.assertFalse(hasattr(builtins, name), (file.name, name))
            for node in ast.walk(tree):
                if isinstance(node, ast.Name) and isinstance(node.ctx, ast.Load) and node.id not in bound:
                    self.assertIn(node.id, OWN_NAMES, (file.name, node.lineno))

    def test_locals_are_not_called_like_classes_or_imports(self):
        for file in FILES:
            tree = tree_of(file)
            taken = {node.name for node in tree.body if isinstance(node, ast.ClassDef)}
            taken.update(alias.name for node in tree.body if isinstance(node, ast.ImportFrom) for alias in node.names)
            for node in ast.walk(tree):
                if isinstance(node, ast.arg):
                    self.assertNotIn(node.arg, taken, file.name)
                elif isinstance(node, ast.Name) and isinstance(node.ctx, ast.Store):
                    self.assertNotIn(node.id, taken, file.name)

    def test_walked_at_once(self):
        for file in FILES:
            tree = tree_of(file)
            fine = [node.iter for node in ast.walk(tree) if isinstance(node, (ast.For, ast.comprehension))]
            fine += [node.args[0] for node in ast.walk(tree) if called_name(node) in WALKERS and node.args]
            for node in ast.walk(tree):
                if called_name(node) in WALKED:
                    self.assertIn(node, fine, (file.name, node.lineno))

    def test_methods_and_values(self):
        methods = own_methods()
        for name in methods - DOUBLE:
            self.assertRegex(name, r"\A[a-z][a-z0-9_]*\Z")
            self.assertNotIn(name, UNUSED)
        for where, node in self.each_node():
            if isinstance(node, ast.Call) and isinstance(node.func, ast.Attribute):
                self.assertIn(node.func.attr, methods | OWN_METHODS, where)
            if isinstance(node, ast.Attribute) and isinstance(node.ctx, ast.Store):
                self.assertNotIn(node.attr, methods | UNUSED, where)
                self.assertIsInstance(node.value, ast.Name, where)


if __name__ == "__main__":
    unittest.main()
