"""The rules of LANGUAGE.md that a test can see: of these the ones that this package could break by a slip."""

import ast
import builtins
import os
import re
import unittest

FOLDER = os.path.join(os.path.dirname(os.path.dirname(os.path.abspath(__file__))), "bracketwords")
BUILTINS = set(
    "len range enumerate zip min max sum abs sorted reversed int str bool bytes list tuple dict set frozenset "
    "isinstance ord repr any all divmod super Exception ValueError TypeError KeyError IndexError LookupError "
    "ZeroDivisionError ArithmeticError OverflowError RuntimeError NotImplementedError AttributeError "
    "StopIteration NotImplemented property staticmethod classmethod".split()
)
METHODS = set(
    "append clear copy count endswith extend find get index insert isalnum isalpha isdigit islower isspace isupper "
    "items join keys ljust lower lstrip partition pop remove replace reverse rfind rjust rpartition rsplit rstrip "
    "setdefault split splitlines startswith strip update upper values zfill bit_length add discard sort".split()
)
BARRED_WORDS = (
    "type typing typing_extensions enum Enum IntEnum StrEnum Flag IntFlag Generic Protocol ABC ABCMeta namedtuple "
    "NamedTuple TypedDict TYPE_CHECKING abstractmethod"
).split()
BARRED_PARTS = ("dataclass", "overload", "contextmanager")
BARRED_NAMES = set("register mro elements open input version_info with_traceback add_note format format_map".split())
BARRED_NODES = (
    ast.Global, ast.AsyncFunctionDef, ast.AsyncFor, ast.AsyncWith, ast.Await, ast.Import, ast.Div, ast.MatMult
)
MODULE_LEVEL = (ast.ImportFrom, ast.FunctionDef, ast.ClassDef, ast.Assign)


def sources():
    """The pairs of a file's name and its text."""
    told = []
    for name in sorted(os.listdir(FOLDER)):
        if name != "__pycache__":
            with open(os.path.join(FOLDER, name), encoding="utf-8") as file:
                told.append((name, file.read()))
    return told


def is_docstring(node):
    return isinstance(node, ast.Expr) and isinstance(node.value, ast.Constant) and isinstance(node.value.value, str)


def bound_names(tree):
    """The names of parameters, variables, functions, classes and attributes that a file binds."""
    for node in ast.walk(tree):
        if isinstance(node, (ast.FunctionDef, ast.ClassDef)):
            yield node.name
        elif isinstance(node, ast.arg):
            yield node.arg
        elif isinstance(node, ast.Name) and isinstance(node.ctx, ast.Store):
            yield node.id
        elif isinstance(node, ast.Attribute) and isinstance(node.ctx, ast.Store):
            yield node.attr


def local_names(tree):
    """The names of parameters and variables, those of classes and methods left out."""
    for node in ast.walk(tree):
        if isinstance(node, ast.arg):
            yield node.arg
        elif isinstance(node, ast.Name) and isinstance(node.ctx, ast.Store):
            yield node.id


class Files(unittest.TestCase):
    def test_files_and_signs(self):
        for name, text in sources():
            self.assertRegex(name, r"\A[a-z0-9_]+\.py\Z")
            self.assertRegex(text, r"\A[ -~\n]*\Z", name)
            self.assertLessEqual(len(text.splitlines()), 400, name)
            for row in text.splitlines():
                self.assertLessEqual(len(row), 120, name)

    def test_barred_words(self):
        for name, text in sources():
            for word in BARRED_WORDS:
                self.assertIsNone(re.search(r"\b" + word + r"\b", text), (name, word))
            for part in BARRED_PARTS:
                self.assertNotIn(part, text, name)


class Trees(unittest.TestCase):
    def setUp(self):
        self.trees = [(name, ast.parse(text)) for name, text in sources()]

    def test_module_level(self):
        for name, tree in self.trees:
            for node in tree.body:
                self.assertTrue(isinstance(node, MODULE_LEVEL) or is_docstring(node), (name, node.lineno))

    def test_imports(self):
        for name, tree in self.trees:
            for node in ast.walk(tree):
                if isinstance(node, ast.ImportFrom):
                    self.assertIn(node, tree.body)
                    self.assertRegex(node.module, r"\Abracketwords\.[a-z_]+\Z", name)
                    self.assertEqual(node.level, 0)

    def test_barred_statements_and_values(self):
        for name, tree in self.trees:
            for node in ast.walk(tree):
                self.assertNotIsInstance(node, BARRED_NODES, name)
                if isinstance(node, ast.Constant):
                    self.assertNotIsInstance(node.value, (float, complex), name)
                    self.assertFalse(isinstance(node.value, str) and "%" in node.value, name)
                if isinstance(node, ast.BinOp) and isinstance(node.op, ast.Pow):
                    self.assertIsInstance(node.right, ast.Constant, name)
                    self.assertIn(node.right.value, range(65), name)

    def test_module_level_values(self):
        for name, tree in self.trees:
            above = []
            for node in tree.body:
                if isinstance(node, ast.FunctionDef):
                    above.append(node.name)
                elif isinstance(node, ast.Assign):
                    self.assertEqual([type(target) for target in node.targets], [ast.Name], name)
                    for part in ast.walk(node.value):
                        self.assertNotIsInstance(part, (ast.Call, ast.ListComp, ast.DictComp, ast.Set), name)
                        self.assertFalse(isinstance(part, ast.Name) and part.id not in above, (name, node.lineno))
                    self.assertNotIn(node.targets[0].id, above, name)

    def test_what_is_iterated_at_once_is_not_stored(self):
        at_once = ("zip", "enumerate", "reversed", "range", "items", "keys", "values")
        for name, tree in self.trees:
            for node in ast.walk(tree):
                if isinstance(node, (ast.Assign, ast.AugAssign, ast.Return)) and isinstance(node.value, ast.Call):
                    called = node.value.func
                    word = called.attr if isinstance(called, ast.Attribute) else getattr(called, "id", None)
                    self.assertNotIn(word, at_once, (name, node.lineno))

    def test_no_two_files_import_from_each_other(self):
        needs = {
            name: [node.module.split(".")[1] + ".py" for node in tree.body if isinstance(node, ast.ImportFrom)]
            for name, tree in self.trees
        }
        while needs:
            free = [name for name in needs if not any(other in needs for other in needs[name])]
            self.assertNotEqual(free, [], needs)
            for name in free:
                del needs[name]

    def test_short_functions(self):
        for name, tree in self.trees:
            for node in ast.walk(tree):
                if isinstance(node, ast.FunctionDef):
                    self.assertLessEqual(node.end_lineno - node.lineno + 1, 40, (name, node.name))

    def test_builtins(self):
        known = [name for name in dir(builtins) if not name.startswith("_")]
        for name, tree in self.trees:
            for node in ast.walk(tree):
                if isinstance(node, ast.Name) and isinstance(node.ctx, ast.Load) and node.id in known:
                    self.assertIn(node.id, BUILTINS, (name, node.lineno))
            for bound in local_names(tree):
                self.assertNotIn(bound, known, name)

    def test_names(self):
        for name, tree in self.trees:
            for bound in bound_names(tree):
                self.assertNotIn(bound, BARRED_NAMES, name)
                self.assertRegex(bound, r"\A([A-Za-z][A-Za-z0-9_]*|__[a-z]+__)\Z", name)

    def test_no_local_name_is_that_of_an_import_or_a_class(self):
        for name, tree in self.trees:
            imported = [one.name for node in tree.body if isinstance(node, ast.ImportFrom) for one in node.names]
            classes = [node.name for node in tree.body if isinstance(node, ast.ClassDef)]
            for bound in local_names(tree):
                self.assertNotIn(bound, imported + classes, name)

    def test_methods(self):
        own = {
            node.name
            for name, tree in self.trees for kind in ast.walk(tree) if isinstance(kind, ast.ClassDef)
            for node in kind.body if isinstance(node, ast.FunctionDef)
        }
        stored = {
            node.attr
            for name, tree in self.trees for node in ast.walk(tree)
            if isinstance(node, ast.Attribute) and isinstance(node.ctx, ast.Store)
        }
        self.assertEqual(own & stored, set())
        for name, tree in self.trees:
            for node in ast.walk(tree):
                if isinstance(node, ast.Attribute):
                    self.assertIn(node.attr, own | stored | METHODS, (name, node.lineno))


if __name__ == "__main__":
    unittest.main()
