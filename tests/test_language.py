"""Some of the rules of ../shared/LANGUAGE.md, as far as they are easily read off the code; not all of them."""

import ast
import builtins
import pathlib
import re
import unittest

PACKAGE = pathlib.Path(__file__).resolve().parent.parent / "mistakesigns"
FILES = sorted(path for path in PACKAGE.rglob("*") if "__pycache__" not in path.parts)

BUILTINS = set(
    "len range enumerate zip min max sum abs sorted reversed int str bool bytes list tuple dict set frozenset isinstance"
    " ord repr any all divmod Exception ValueError TypeError KeyError IndexError LookupError ZeroDivisionError"
    " ArithmeticError OverflowError RuntimeError NotImplementedError AttributeError StopIteration NotImplemented".split())
METHODS = set(
    "append clear copy count endswith extend find get index insert isalnum isalpha isdigit islower isspace isupper items"
    " join keys ljust lower lstrip partition pop remove replace reverse rfind rjust rpartition rsplit rstrip setdefault"
    " split splitlines startswith strip update upper values zfill bit_length isascii isdecimal removeprefix removesuffix"
    " sort add discard".split())
BARRED_WORDS = re.compile(
    r"\b(type|typing|typing_extensions|enum|Enum|IntEnum|StrEnum|Flag|IntFlag|Generic|Protocol|ABC|ABCMeta|namedtuple"
    r"|NamedTuple|TypedDict|TYPE_CHECKING|abstractmethod)\b|dataclass|overload|contextmanager")
BARRED_NAMES = set(
    "register mro elements open input version_info with_traceback add_note attrgetter breakpoint builtins compile copyright"
    " credits delattr dir eval exec exit gc getattr globals hasattr help id importlib license locals methodcaller os quit"
    " setattr super type vars sys".split())
BARRED_NODES = (
    ast.Global, ast.AsyncFunctionDef, ast.AsyncFor, ast.AsyncWith, ast.Await, ast.Import, ast.Div, ast.MatMult,
)
MODULE_LEVEL = (ast.FunctionDef, ast.ClassDef, ast.ImportFrom, ast.Assign)


def is_docstring(node):
    return isinstance(node, ast.Expr) and isinstance(node.value, ast.Constant) and isinstance(node.value.value, str)


def bound_names(node):
    """The names that a node gives a meaning to."""
    if isinstance(node, ast.Name) and not isinstance(node.ctx, ast.Load):
        return [node.id]
    if isinstance(node, ast.arg):
        return [node.arg]
    if isinstance(node, (ast.FunctionDef, ast.ClassDef)):
        return [node.name]
    return []


class Language(unittest.TestCase):
    def setUp(self):
        self.texts = {path: path.read_bytes().decode("utf-8") for path in FILES}
        self.trees = {path: ast.parse(text) for path, text in self.texts.items()}

    def each_node(self):
        for path, tree in self.trees.items():
            for node in ast.walk(tree):
                yield f"{path.name}:{getattr(node, 'lineno', 0)}", node

    def test_files(self):
        self.assertIn(PACKAGE / "__init__.py", FILES)
        for path in FILES:
            self.assertRegex(path.name, r"^[a-z_][a-z0-9_]*\.py$")
            self.assertEqual(path.parent, PACKAGE)

    def test_characters_and_sizes(self):
        for path, text in self.texts.items():
            self.assertRegex(text, r"\A[\n -~]*\Z", path.name)
            lines = text.split("\n")
            self.assertLessEqual(len(lines), 400, path.name)
            self.assertLessEqual(max(map(len, lines)), 120, path.name)
            self.assertIsNone(BARRED_WORDS.search(text), path.name)
        for where, node in self.each_node():
            if isinstance(node, ast.FunctionDef):
                self.assertLessEqual(node.end_lineno - node.lineno + 1, 40, where)

    def test_module_level(self):
        for path, tree in self.trees.items():
            for at, node in enumerate(tree.body):
                self.assertTrue(isinstance(node, MODULE_LEVEL) or at == 0 and is_docstring(node), path.name)
            names = [name for node in tree.body for name in bound_names(node)]
            names += [alias.asname or alias.name for node in tree.body if isinstance(node, ast.ImportFrom)
                      for alias in node.names]
            self.assertEqual(len(names), len(set(names)), path.name)

    def test_imports_name_the_file_that_defines(self):
        defined = {path.stem: {name for node in tree.body for name in bound_names(node)}
                   for path, tree in self.trees.items()}
        for where, node in self.each_node():
            if isinstance(node, ast.ImportFrom):
                top, found, stem = node.module.partition(".")
                self.assertEqual((node.level, top, found), (0, "mistakesigns", "."), where)
                for alias in node.names:
                    self.assertIn(alias.name, defined[stem], where)

    def test_no_barred_nodes(self):
        for where, node in self.each_node():
            self.assertNotIsInstance(node, BARRED_NODES, where)
            if isinstance(node, ast.Constant):
                self.assertNotIsInstance(node.value, (float, complex), where)
                self.assertNotIn("%", node.value if isinstance(node.value, str) else "", where)
            if isinstance(node, ast.BinOp) and isinstance(node.op, ast.Pow):
                self.assertIsInstance(node.right, ast.Constant, where)
            if isinstance(node, ast.Compare):
                for sign, right in zip(node.ops, node.comparators):
                    if isinstance(sign, (ast.Is, ast.IsNot)):
                        self.assertIsInstance(right, ast.Constant, where)
            if isinstance(node, ast.FunctionDef):
                self.assertEqual((node.decorator_list, node.args.posonlyargs), ([], []), where)

    def test_names(self):
        for path, tree in self.trees.items():
            imported = {alias.asname or alias.name for node in tree.body if isinstance(node, ast.ImportFrom)
                        for alias in node.names}
            for node in ast.walk(tree):
                for name in bound_names(node):
                    self.assertRegex(name, r"^([A-Za-z][A-Za-z0-9_]*|__[a-z]+__)$", path.name)
                    self.assertNotIn(name, BARRED_NAMES | imported | set(dir(builtins)), path.name)

    def test_nothing_stored_that_is_iterated_once(self):
        for where, node in self.each_node():
            if isinstance(node, (ast.Assign, ast.Return)) and isinstance(node.value, ast.Call):
                called = node.value.func
                name = called.id if isinstance(called, ast.Name) else getattr(called, "attr", "")
                self.assertNotIn(name, ("zip", "enumerate", "reversed", "range", "items", "keys", "values"), where)

    def test_builtins_and_methods(self):
        for where, node in self.each_node():
            if isinstance(node, ast.Name) and node.id in dir(builtins):
                self.assertIn(node.id, BUILTINS, where)
            if isinstance(node, ast.Attribute):
                self.assertIn(node.attr, METHODS, where)


if __name__ == "__main__":
    unittest.main()
