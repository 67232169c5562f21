"""Rules of ../shared/LANGUAGE.md that a look at the text and the tree of each file can see."""

import ast
import builtins
import pathlib
import re
import unittest

PACKAGE = pathlib.Path(__file__).resolve().parent.parent / "leastcross"
FILES = sorted(PACKAGE.glob("*.py"))

BUILTINS = set(
    "len range enumerate zip min max sum abs sorted reversed int str bool bytes list tuple dict set frozenset"
    " isinstance ord repr any all divmod Exception ValueError TypeError KeyError IndexError LookupError"
    " ZeroDivisionError ArithmeticError OverflowError RuntimeError NotImplementedError AttributeError"
    " StopIteration NotImplemented".split())
METHODS = set(
    "append clear copy count endswith extend find get index insert isalnum isalpha isdigit islower isspace"
    " isupper items join keys ljust lower lstrip partition pop remove replace reverse rfind rjust rpartition"
    " rsplit rstrip setdefault split splitlines startswith strip update upper values zfill bit_length add"
    " discard sort".split())
BARRED_WORDS = (
    "type typing typing_extensions enum Enum IntEnum StrEnum Flag IntFlag Generic Protocol ABC ABCMeta namedtuple"
    " NamedTuple TypedDict TYPE_CHECKING abstractmethod").split()
BARRED_NAMES = set(
    "register mro elements open input version_info with_traceback add_note eval exec getattr setattr delattr"
    " hasattr globals locals vars dir id help quit exit compile breakpoint super sys os gc".split())
BARRED_NODES = (ast.Global, ast.AsyncFunctionDef, ast.AsyncFor, ast.AsyncWith, ast.Await, ast.Div, ast.MatMult,
                ast.Import)


def trees():
    return [(path.name, ast.parse(path.read_text())) for path in FILES]


def functions(tree):
    return [node for node in ast.walk(tree) if isinstance(node, ast.FunctionDef)]


def names_bound(tree):
    """Each name that the file binds: functions, classes, parameters, variables, imports."""
    for node in ast.walk(tree):
        if isinstance(node, (ast.FunctionDef, ast.ClassDef)):
            yield node.name
        elif isinstance(node, ast.arg):
            yield node.arg
        elif isinstance(node, ast.Name) and not isinstance(node.ctx, ast.Load):
            yield node.id
        elif isinstance(node, ast.alias):
            yield node.asname or node.name


class Texts(unittest.TestCase):
    def test_the_folder_has_python_files_alone(self):
        names = [path.name for path in PACKAGE.iterdir() if path.name != "__pycache__"]
        self.assertEqual(sorted(names), [path.name for path in FILES])
        self.assertIn("__init__.py", names)
        self.assertEqual([name for name in names if not re.fullmatch(r"[a-z0-9_]+\.py", name)], [])

    def test_signs_and_sizes(self):
        for path in FILES:
            text = path.read_text()
            self.assertEqual(re.findall(r"[^ -~\n]", text), [], path.name)
            self.assertLessEqual(len(text.splitlines()), 400, path.name)
            self.assertLessEqual(max(len(line) for line in text.splitlines()), 120, path.name)

    def test_words(self):
        for path in FILES:
            words = re.findall(r"[A-Za-z0-9_]+", path.read_text())
            self.assertEqual([word for word in words if word in BARRED_WORDS], [], path.name)
            self.assertEqual(re.findall("dataclass|overload|contextmanager", path.read_text()), [], path.name)


class Trees(unittest.TestCase):
    def test_module_level(self):
        for name, tree in trees():
            for at, node in enumerate(tree.body):
                kinds = (ast.ImportFrom, ast.FunctionDef, ast.ClassDef, ast.Assign)
                docstring = at == 0 and isinstance(node, ast.Expr)
                self.assertTrue(docstring or isinstance(node, kinds), (name, node.lineno))

    def test_imports(self):
        for name, tree in trees():
            for node in ast.walk(tree):
                if isinstance(node, ast.ImportFrom):
                    self.assertIn(node, tree.body, name)
                    self.assertEqual(node.level, 0, name)
                    self.assertIn(node.module.replace("leastcross.", "") + ".py", [path.name for path in FILES], name)

    def test_length_of_functions(self):
        for name, tree in trees():
            for node in functions(tree):
                self.assertLessEqual(node.end_lineno - node.lineno + 1, 40, (name, node.name))

    def test_names(self):
        for name, tree in trees():
            for bound in names_bound(tree):
                self.assertRegex(bound, r"^([A-Za-z][A-Za-z0-9_]*|__[a-z]+__)$", name)
                self.assertNotIn(bound, BARRED_NAMES, name)
                self.assertFalse(hasattr(builtins, bound) and bound != "__init__", (name, bound))

    def test_locals_have_no_name_of_a_class_or_an_import(self):
        for name, tree in trees():
            taken = {node.name for node in tree.body if isinstance(node, ast.ClassDef)}
            for node in tree.body:
                if isinstance(node, ast.ImportFrom):
                    taken |= {alias.asname or alias.name for alias in node.names}
            for node in functions(tree):
                self.assertEqual(taken & set(names_bound(node)), set(), (name, node.name))

    def test_a_name_is_bound_once_at_module_level(self):
        for name, tree in trees():
            bound = []
            for node in tree.body:
                if isinstance(node, (ast.FunctionDef, ast.ClassDef)):
                    bound.append(node.name)
                elif isinstance(node, ast.ImportFrom):
                    bound += [alias.asname or alias.name for alias in node.names]
                elif isinstance(node, ast.Assign):
                    bound += [target.id for target in node.targets]
            self.assertEqual(len(bound), len(set(bound)), name)

    def test_builtins_and_methods(self):
        for name, tree in trees():
            own = {node.name for node in functions(tree)}
            for node in ast.walk(tree):
                if isinstance(node, ast.Name) and hasattr(builtins, node.id):
                    self.assertIn(node.id, BUILTINS, (name, node.lineno))
                if isinstance(node, ast.Call) and isinstance(node.func, ast.Attribute):
                    self.assertIn(node.func.attr, METHODS | own, (name, node.lineno))

    def test_nodes(self):
        for name, tree in trees():
            for node in ast.walk(tree):
                self.assertNotIsInstance(node, BARRED_NODES, name)
                if isinstance(node, ast.Constant):
                    self.assertNotIsInstance(node.value, (float, complex), name)
                    self.assertFalse(isinstance(node.value, str) and "%" in node.value, (name, node.lineno))
                if isinstance(node, ast.ExceptHandler):
                    self.assertIsNotNone(node.type, (name, node.lineno))

    def test_is_only_with_none_and_truths(self):
        for name, tree in trees():
            for node in ast.walk(tree):
                if isinstance(node, ast.Compare) and isinstance(node.ops[0], (ast.Is, ast.IsNot)):
                    right = node.comparators[0]
                    self.assertTrue(isinstance(right, ast.Constant) and right.value in (None, True, False),
                                    (name, node.lineno))


if __name__ == "__main__":
    unittest.main()
