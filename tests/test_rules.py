"""Rules of the language subset that can be read off the files of the package."""

import ast
import builtins
import pathlib
import unittest

FOLDER = pathlib.Path(__file__).resolve().parent.parent / "imagetalk"
BUILTINS = """len range enumerate zip min max sum abs sorted reversed int str bool list tuple dict set isinstance ord repr any
all divmod super Exception ValueError TypeError KeyError IndexError LookupError ZeroDivisionError""".split()
METHODS = """append clear copy count endswith extend find get index insert isalnum isalpha isdigit islower isspace isupper items
join keys ljust lower lstrip partition pop remove replace reverse rfind rjust rpartition rsplit rstrip setdefault split
splitlines startswith strip update upper values zfill bit_length isascii isprintable removeprefix removesuffix
__init__""".split()
SPECIAL = ("__init__", "__eq__", "__repr__", "__str__", "__len__")
NOT_NAMES = """register mro elements open input law version_info with_traceback add_note exit id dir help vars type eval exec
compile globals locals""".split()
NOT_ALLOWED = (ast.AsyncFunctionDef, ast.GeneratorExp, ast.Global, ast.Lambda, ast.Set, ast.Div, ast.AnnAssign, ast.Match,
               ast.With, ast.NamedExpr, ast.Import)


def files():
    return sorted(FOLDER.glob("*.py"))


def trees():
    return [(path.name, ast.parse(path.read_text())) for path in files()]


class RulesTest(unittest.TestCase):
    def test_the_folder_holds_nothing_else(self):
        found = [path.name for path in FOLDER.iterdir() if path.name != "__pycache__"]
        self.assertEqual(sorted(found), [path.name for path in files()])
        self.assertIn("__init__.py", found)

    def test_sizes_and_characters(self):
        for path in files():
            lines = path.read_text().split("\n")
            self.assertLessEqual(len(lines) - 1, 399, path.name)
            for line in lines:
                self.assertLessEqual(len(line), 120, path.name)
                self.assertTrue(all(" " <= sign <= "~" for sign in line), (path.name, line))
        for name, tree in trees():
            for node in ast.walk(tree):
                if isinstance(node, ast.FunctionDef):
                    self.assertLessEqual(node.end_lineno - node.lineno + 1, 40, (name, node.name))

    def test_imports_name_the_file_that_defines(self):
        defined = {}
        for name, tree in trees():
            names = [node.name for node in tree.body if isinstance(node, (ast.FunctionDef, ast.ClassDef))]
            names += [target.id for node in tree.body if isinstance(node, ast.Assign) for target in node.targets]
            self.assertEqual(len(names), len(set(names)), name)
            defined["imagetalk." + name[:-3]] = names
        for name, tree in trees():
            for node in ast.walk(tree):
                if isinstance(node, ast.ImportFrom):
                    self.assertIn(node, tree.body)
                    self.assertEqual(node.level, 0)
                    for alias in node.names:
                        self.assertIn(alias.name, defined[node.module], name)

    def test_module_level(self):
        for name, tree in trees():
            for place, node in enumerate(tree.body):
                if place == 0:
                    self.assertTrue(ast.get_docstring(tree), name)
                elif isinstance(node, ast.Assign):
                    ast.literal_eval(node.value)
                else:
                    self.assertIsInstance(node, (ast.ImportFrom, ast.FunctionDef, ast.ClassDef), name)

    def test_forms_that_are_not_used(self):
        for name, tree in trees():
            for node in ast.walk(tree):
                self.assertNotIsInstance(node, NOT_ALLOWED, name)
                if isinstance(node, ast.Constant):
                    self.assertNotIsInstance(node.value, float, name)
                    self.assertNotIn("%", node.value if isinstance(node.value, str) else "", name)
                if isinstance(node, (ast.FunctionDef, ast.ClassDef)):
                    self.assertTrue(ast.get_docstring(node) or node.name == "__init__", (name, node.name))
                    self.assertFalse([one for one in node.decorator_list if one.id not in ("property",)], name)

    def test_names(self):
        for name, tree in trees():
            for node in ast.walk(tree):
                if isinstance(node, ast.Name) and isinstance(node.ctx, ast.Load) and hasattr(builtins, node.id):
                    self.assertIn(node.id, BUILTINS, name)
                bound = [node.id] if isinstance(node, ast.Name) and not isinstance(node.ctx, ast.Load) else []
                bound += [node.arg] if isinstance(node, ast.arg) else []
                bound += [node.name] if isinstance(node, (ast.FunctionDef, ast.ClassDef)) else []
                for one in bound:
                    if one not in SPECIAL:
                        self.assertFalse(hasattr(builtins, one) or one.startswith("__"), (name, one))
                        self.assertNotIn(one, NOT_NAMES, name)

    def test_methods_of_builtin_values(self):
        own = {node.name for _, tree in trees() for node in ast.walk(tree) if isinstance(node, ast.FunctionDef)}
        for name, tree in trees():
            for node in ast.walk(tree):
                if isinstance(node, ast.Call) and isinstance(node.func, ast.Attribute):
                    self.assertIn(node.func.attr, own.union(METHODS), name)

    def test_sets_stand_in_sorted_and_len_alone(self):
        for name, tree in trees():
            held = [argument for node in ast.walk(tree) if isinstance(node, ast.Call) for argument in node.args
                    if isinstance(node.func, ast.Name) and node.func.id in ("sorted", "len")]
            for node in ast.walk(tree):
                if isinstance(node, ast.SetComp):
                    self.assertIn(node, held, name)


if __name__ == "__main__":
    unittest.main()
