"""What ../shared/LANGUAGE.md demands of the files, as far as it can be read off them (L1, L2, L5, L7, L8, L10, L14, L17, L19)."""

import ast
import builtins
import os
import re
import unittest

import bondfloors

FOLDER = os.path.dirname(os.path.abspath(bondfloors.__file__))
BARRED = re.compile(
    r"\b(typing|typing_extensions|enum|Enum|IntEnum|StrEnum|Flag|IntFlag|Generic|Protocol|ABC|ABCMeta"
    r"|namedtuple|NamedTuple|TypedDict|TYPE_CHECKING|abstractmethod)\b|dataclass|overload|contextmanager"
)
BUILTINS = (
    "len", "range", "enumerate", "zip", "min", "max", "sum", "abs", "sorted", "reversed", "int", "str", "bool", "list", "tuple", "dict", "set",
    "isinstance", "any", "all", "divmod", "classmethod", "property", "ValueError", "TypeError", "KeyError", "IndexError", "LookupError",
    "ArithmeticError", "OverflowError",
)
METHODS = (
    "__init__", "__eq__", "__str__", "__len__", "__contains__", "__getitem__", "__iter__", "__call__", "__enter__", "__exit__",
)
LIBRARY = ("heapq", "math", "itertools", "collections")


def package_files():
    found = []
    for folder, folders, files in os.walk(FOLDER):
        folders[:] = sorted(name for name in folders if name != "__pycache__")
        found += [os.path.join(folder, name) for name in sorted(files)]
    return found


def text_of(path):
    with open(path, encoding="utf-8") as file:
        return file.read()


def code_without_docstrings(path):
    """The code as Python reads it, without comments and docstrings."""
    tree = ast.parse(text_of(path))
    for node in ast.walk(tree):
        if isinstance(node, (ast.Module, ast.ClassDef, ast.FunctionDef)) and ast.get_docstring(node) is not None:
            node.body[0] = ast.Pass()
    return ast.unparse(tree)


class Files(unittest.TestCase):
    def test_only_python_files_with_plain_names(self):
        self.assertLessEqual(len(package_files()), 100)
        for path in package_files():
            with self.subTest(path):
                self.assertRegex(os.path.basename(path), r"\A(__init__|__main__|[a-z][a-z0-9_]*)\.py\Z")
                self.assertTrue(os.path.exists(os.path.join(os.path.dirname(path), "__init__.py")))

    def test_characters_and_lengths(self):
        for path in package_files():
            with self.subTest(path):
                text = text_of(path)
                self.assertRegex(text, r"\A[\n -~]*\Z")
                self.assertLessEqual(len(text.splitlines()), 399)
                self.assertLessEqual(max(map(len, text.splitlines())), 120)
                for node in ast.walk(ast.parse(text)):
                    if isinstance(node, ast.FunctionDef):
                        self.assertLessEqual(node.end_lineno - node.lineno + 1, 40, node.name)

    def test_imports(self):
        for path in package_files():
            for node in ast.walk(ast.parse(text_of(path))):
                if isinstance(node, ast.Import):
                    self.assertEqual([name.name for name in node.names], ["sys"], path)
                    self.assertEqual(os.path.basename(path), "__main__.py")
                if isinstance(node, ast.ImportFrom) and node.module != "__future__":
                    self.assertEqual(node.level, 0, path)
                    self.assertIn(node.module.split(".")[0], ("bondfloors",) + LIBRARY, path)

    def test_signs_and_words_of_the_language(self):
        for path in package_files():
            for node in ast.walk(ast.parse(text_of(path))):
                with self.subTest(path, line=getattr(node, "lineno", 0)):
                    # Where a class has __eq__, what looks into all of something takes a list.
                    self.assertNotIsInstance(node, (ast.GeneratorExp, ast.Global, ast.Nonlocal, ast.Lambda, ast.Div, ast.AsyncFunctionDef))
                    if isinstance(node, ast.Constant):
                        self.assertNotIsInstance(node.value, (float, complex))
                    if isinstance(node, ast.Name) and node.id != "_" and hasattr(builtins, node.id):
                        self.assertIn(node.id, BUILTINS)
                    if isinstance(node, ast.FunctionDef) and node.name.startswith("__"):
                        self.assertIn(node.name, METHODS)
                    if isinstance(node, ast.Compare) and isinstance(node.ops[0], (ast.Is, ast.IsNot)):
                        self.assertIsNone(node.comparators[0].value)
                    if isinstance(node, ast.ExceptHandler):
                        for caught in ast.walk(node.type):
                            self.assertFalse(hasattr(builtins, getattr(caught, "id", "")))

    def test_barred_words(self):
        for path in package_files():
            with self.subTest(path):
                self.assertIsNone(BARRED.search(code_without_docstrings(path)))


if __name__ == "__main__":
    unittest.main()
