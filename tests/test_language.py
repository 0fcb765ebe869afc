"""The rules of the language that can be seen in the files of the package themselves."""

import ast
import pathlib
import unittest

FOLDER = pathlib.Path(__file__).resolve().parent.parent / "pairwarden"
FILES = sorted(FOLDER.glob("*.py"))
# What the library may give, and nothing else of it.
LIBRARY = {"itertools": {"combinations"}}
BUILTINS = {
    "combinations", "cls",
    "len", "range", "enumerate", "zip", "min", "max", "sum", "abs", "sorted", "reversed", "int", "str", "bool",
    "list", "tuple", "dict", "set", "isinstance", "ord", "repr", "any", "all", "divmod", "iter", "ValueError",
}
METHODS = set(
    "append clear copy count endswith extend find get index insert isalnum isalpha isdigit islower isspace isupper "
    "items join keys ljust lower lstrip partition pop remove replace reverse rfind rjust rpartition rsplit rstrip "
    "setdefault split splitlines startswith strip update upper values zfill bit_length add discard".split()
)
# Rule L23: what is walked on the spot, and the calls that may walk it as their first argument.
WALKED = {"range", "zip", "enumerate", "reversed", "map"}
VIEWS = {"items", "keys", "values"}
WALKERS = {"list", "tuple", "dict", "sorted", "sum", "any", "all", "enumerate", "zip", "bytes"}
MODIFIERS = set("append clear extend insert pop remove reverse setdefault update sort".split())


def trees():
    return [(path.name, path.read_text(), ast.parse(path.read_text())) for path in FILES]


def parents(tree):
    return {below: node for node in ast.walk(tree) for below in ast.iter_child_nodes(node)}


def called(node):
    """The name by which a builtin or a method is called, or None."""
    if not isinstance(node, ast.Call):
        return None
    return node.func.id if isinstance(node.func, ast.Name) else getattr(node.func, "attr", None)


def is_walked_at_once(node, parent):
    """Whether a range, a zip, a view or the like stands where rule L23 lets it stand."""
    if isinstance(parent, (ast.For, ast.comprehension)):
        return parent.iter is node
    name = called(parent)
    if name is None or not isinstance(parent.func, ast.Name):
        return False
    first = bool(parent.args) and parent.args[0] is node
    if name in ("min", "max"):
        return parent.args == [node] and all(word.arg == "default" for word in parent.keywords)
    if name in ("len", "reversed"):
        return first and called(node) == "range"
    # All arguments of a zip are walked; combinations is one of the products of rule L2.
    return (name == "zip" and node in parent.args) or (first and name in WALKERS | {"combinations"})


def sets_of(function):
    """The names of a function that are assigned a set."""
    return {
        node.targets[0].id for node in ast.walk(function) if isinstance(node, ast.Assign)
        and isinstance(node.targets[0], ast.Name)
        and (isinstance(node.value, (ast.Set, ast.SetComp)) or called(node.value) == "set")
    }


class TestLanguage(unittest.TestCase):
    def test_the_folder_holds_files_of_the_language_alone(self):
        names = [path.name for path in FOLDER.iterdir() if path.name != "__pycache__"]
        self.assertIn("__init__.py", names)
        self.assertTrue(all(name.endswith(".py") and name == name.lower() for name in names))

    def test_sizes_and_characters(self):
        for name, text, tree in trees():
            self.assertTrue(all(char == "\n" or " " <= char <= "~" for char in text), name)
            self.assertLessEqual(len(text.splitlines()), 399, name)
            self.assertLessEqual(max(map(len, text.splitlines())), 120, name)
            for node in ast.walk(tree):
                if isinstance(node, ast.FunctionDef):
                    self.assertLessEqual(node.end_lineno - node.lineno + 1, 40, node.name)
                    self.assertIn([ast.unparse(part) for part in node.decorator_list], ([], ["classmethod"]), node.name)
                if isinstance(node, ast.Constant) and isinstance(node.value, str):
                    self.assertNotIn("%", node.value, name)
                self.assertNotIsInstance(node, (ast.Global, ast.AsyncFunctionDef, ast.Div, ast.Import), name)

    def test_imports_come_from_the_defining_file(self):
        for name, _, tree in trees():
            for node in ast.walk(tree):
                if not isinstance(node, ast.ImportFrom):
                    continue
                if node.module in LIBRARY:
                    self.assertLessEqual({alias.name for alias in node.names}, LIBRARY[node.module], name)
                    continue
                package, _, module = node.module.partition(".")
                self.assertEqual([package, node.level], ["pairwarden", 0], name)
                body = ast.parse((FOLDER / f"{module}.py").read_text()).body
                defined = {part.name for part in body if isinstance(part, (ast.FunctionDef, ast.ClassDef))}
                defined |= {part.targets[0].id for part in body if isinstance(part, ast.Assign)}
                self.assertLessEqual({alias.name for alias in node.names}, defined, name)
                self.assertTrue(all(alias.asname is None for alias in node.names), name)

    def test_all_that_is_imported_is_used(self):
        for name, _, tree in trees():
            imported = {alias.name for node in ast.walk(tree) if isinstance(node, ast.ImportFrom) for alias in node.names}
            self.assertLessEqual(imported, {node.id for node in ast.walk(tree) if isinstance(node, ast.Name)}, name)

    def test_files_do_not_import_in_a_circle(self):
        imports = {
            name[:-3]: {node.module.partition(".")[2] for node in ast.walk(tree) if isinstance(node, ast.ImportFrom)}
            for name, _, tree in trees()
        }
        reached = {name: set(rows) - {""} for name, rows in imports.items()}
        for _ in imports:
            reached = {name: rows.union(*[reached[other] for other in rows]) for name, rows in reached.items()}
        for name, rows in reached.items():
            self.assertNotIn(name, rows)

    def test_only_known_functions_and_methods_are_called(self):
        own = {
            node.name for _, _, tree in trees() for node in ast.walk(tree)
            if isinstance(node, (ast.FunctionDef, ast.ClassDef))
        }
        for name, _, tree in trees():
            for node in ast.walk(tree):
                if isinstance(node, ast.Call) and isinstance(node.func, ast.Name):
                    self.assertIn(node.func.id, own | BUILTINS, name)
                if isinstance(node, ast.Call) and isinstance(node.func, ast.Attribute):
                    self.assertIn(node.func.attr, own | METHODS, name)

    def test_ranges_and_views_are_walked_on_the_spot(self):
        found = 0
        for name, _, tree in trees():
            above = parents(tree)
            for node in ast.walk(tree):
                word = called(node)
                is_builtin = word in WALKED and isinstance(node.func, ast.Name)
                if is_builtin or (word in VIEWS and isinstance(node.func, ast.Attribute)):
                    self.assertTrue(is_walked_at_once(node, above[node]), f"{name} row {node.lineno}")
                    found += 1
        self.assertGreater(found, 50)

    def test_how_a_walked_range_is_told(self):
        for line, right in (
            ("for k in range(3): pass", True), ("[k for k in range(3)]", True), ("list(range(3))", True),
            ("sorted(range(3), key=len)", True), ("min(range(3), default=0)", True), ("len(range(3))", True),
            ("pairs(pool, range(3))", False), ("k = range(3)", False), ("(range(3), 1)", False), ("max(1, range(3))", False),
            ("box.pairs(range(3))", False), ("min(range(3), key=len)", False), ("sum(1, range(3))", False),
        ):
            tree = ast.parse(line)
            node = next(node for node in ast.walk(tree) if called(node) == "range")
            self.assertEqual(is_walked_at_once(node, parents(tree)[node]), right, line)

    def test_what_a_loop_goes_over_is_not_changed_in_it(self):
        for name, _, tree in trees():
            for loop in [node for node in ast.walk(tree) if isinstance(node, ast.For)]:
                walked = {ast.unparse(node) for node in ast.walk(loop.iter) if isinstance(node, (ast.Name, ast.Attribute))}
                copied = called(loop.iter) in ("list", "tuple", "sorted")
                for node in [node for part in loop.body for node in ast.walk(part)]:
                    changed = None
                    if called(node) in MODIFIERS and isinstance(node.func, ast.Attribute):
                        changed = ast.unparse(node.func.value)
                    if isinstance(node, ast.Subscript) and not isinstance(node.ctx, ast.Load):
                        changed = ast.unparse(node.value)
                    self.assertTrue(copied or changed not in walked, f"{name} row {node.lineno if changed else 0}")

    def test_sets_are_not_iterated_or_passed_on(self):
        for name, _, tree in trees():
            for function in [node for node in ast.walk(tree) if isinstance(node, ast.FunctionDef)]:
                above, names = parents(function), sets_of(function)
                for node in ast.walk(function):
                    if not isinstance(node, ast.Name) or node.id not in names or isinstance(node.ctx, ast.Store):
                        continue
                    parent = above[node]
                    used = isinstance(parent, (ast.Compare, ast.If, ast.Attribute)) or called(parent) in ("len", "sorted")
                    self.assertTrue(used, f"{name} row {node.lineno}")

    def test_errors_are_caught_by_their_own_names(self):
        own = {node.name for node in ast.parse((FOLDER / "errors.py").read_text()).body if isinstance(node, ast.ClassDef)}
        for name, _, tree in trees():
            for node in ast.walk(tree):
                if isinstance(node, ast.ExceptHandler):
                    self.assertIn(getattr(node.type, "id", None), own, name)
                if isinstance(node, ast.Raise):
                    self.assertIn(called(node.exc), own, name)

    def test_captured_names_mean_nothing_else(self):
        for name, _, tree in trees():
            for function in [node for node in ast.walk(tree) if isinstance(node, ast.FunctionDef)]:
                captured = {
                    node.name for node in ast.walk(function) if isinstance(node, (ast.MatchAs, ast.MatchStar)) and node.name
                }
                bound = {node.id for node in ast.walk(function) if isinstance(node, ast.Name) and isinstance(node.ctx, ast.Store)}
                bound |= {node.arg for node in ast.walk(function) if isinstance(node, ast.arg)}
                self.assertEqual(captured & bound, set(), f"{name} {function.name}")

    def test_no_names_of_builtins(self):
        barred = set(dir(__builtins__) if not isinstance(__builtins__, dict) else __builtins__)
        for name, _, tree in trees():
            for node in ast.walk(tree):
                bound = node.name if isinstance(node, (ast.ClassDef,)) else None
                if isinstance(node, ast.Name) and isinstance(node.ctx, ast.Store):
                    bound = node.id
                if isinstance(node, ast.arg):
                    bound = node.arg
                self.assertNotIn(bound, barred, name)

    def test_no_local_name_is_that_of_a_class_or_an_import(self):
        for name, _, tree in trees():
            taken = {node.name for node in ast.walk(tree) if isinstance(node, ast.ClassDef)}
            taken |= {alias.name for node in ast.walk(tree) if isinstance(node, ast.ImportFrom) for alias in node.names}
            for node in ast.walk(tree):
                bound = node.id if isinstance(node, ast.Name) and isinstance(node.ctx, ast.Store) else getattr(node, "arg", None)
                self.assertNotIn(bound, taken, name)
