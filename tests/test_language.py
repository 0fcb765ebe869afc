"""The rules of the language that can be seen in the files of the package themselves."""

import ast
import pathlib
import unittest

FOLDER = pathlib.Path(__file__).resolve().parent.parent / "pairwarden"
FILES = sorted(FOLDER.glob("*.py"))
# What the library may give, and nothing else of it.
LIBRARY = {"itertools": {"combinations"}}
BUILTINS = {
    "combinations", "cls",
    "len", "range", "enumerate", "zip", "min", "max", "sum", "abs", "sorted", "reversed", "int", "str", "bool",
    "list", "tuple", "dict", "set", "isinstance", "ord", "repr", "any", "all", "divmod", "iter", "ValueError",
}
METHODS = set(
    "append clear copy count endswith extend find get index insert isalnum isalpha isdigit islower isspace isupper "
    "items join keys ljust lower lstrip partition pop remove replace reverse rfind rjust rpartition rsplit rstrip "
    "setdefault split splitlines startswith strip update upper values zfill bit_length add discard".split()
)


def trees():
    return [(path.name, path.read_text(), ast.parse(path.read_text())) for path in FILES]


class TestLanguage(unittest.TestCase):
    def test_the_folder_holds_files_of_the_language_alone(self):
        names = [path.name for path in FOLDER.iterdir() if path.name != "__pycache__"]
        self.assertIn("__init__.py", names)
        self.assertTrue(all(name.endswith(".py") and name == name.lower() for name in names))

    def test_sizes_and_characters(self):
        for name, text, tree in trees():
            self.assertTrue(all(char == "\n" or " " <= char <= "~" for char in text), name)
            self.assertLessEqual(len(text.splitlines()), 399, name)
            self.assertLessEqual(max(map(len, text.splitlines())), 120, name)
            for node in ast.walk(tree):
                if isinstance(node, ast.FunctionDef):
                    self.assertLessEqual(node.end_lineno - node.lineno + 1, 40, node.name)
                    self.assertIn([ast.unparse(part) for part in node.decorator_list], ([], ["classmethod"]), node.name)
                if isinstance(node, ast.Constant) and isinstance(node.value, str):
                    self.assertNotIn("%", node.value, name)
                self.assertNotIsInstance(node, (ast.Global, ast.AsyncFunctionDef, ast.Div, ast.Import), name)

    def test_imports_come_from_the_defining_file(self):
        for name, _, tree in trees():
            for node in ast.walk(tree):
                if not isinstance(node, ast.ImportFrom):
                    continue
                if node.module in LIBRARY:
                    self.assertLessEqual({alias.name for alias in node.names}, LIBRARY[node.module], name)
                    continue
                package, _, module = node.module.partition(".")
                self.assertEqual([package, node.level], ["pairwarden", 0], name)
                defined = {
                    part.name for part in ast.parse((FOLDER / f"{module}.py").read_text()).body
                    if isinstance(part, (ast.FunctionDef, ast.ClassDef))
                }
                self.assertLessEqual({alias.name for alias in node.names}, defined, name)

    def test_only_known_functions_and_methods_are_called(self):
        own = {
            node.name for _, _, tree in trees() for node in ast.walk(tree)
            if isinstance(node, (ast.FunctionDef, ast.ClassDef))
        }
        for name, _, tree in trees():
            for node in ast.walk(tree):
                if isinstance(node, ast.Call) and isinstance(node.func, ast.Name):
                    self.assertIn(node.func.id, own | BUILTINS, name)
                if isinstance(node, ast.Call) and isinstance(node.func, ast.Attribute):
                    self.assertIn(node.func.attr, own | METHODS, name)
