"""Rules of the language subset that can be read off the files of the package."""

import ast
import builtins
import pathlib
import unittest

FOLDER = pathlib.Path(__file__).resolve().parent.parent / "imagetalk"
BUILTINS = """len range enumerate zip min max sum abs sorted reversed int str bool list tuple dict set isinstance ord repr any
all divmod super type property Exception ValueError TypeError KeyError IndexError LookupError ZeroDivisionError
NotImplementedError""".split()
METHODS = """append clear copy count endswith extend find get index insert isalnum isalpha isdigit islower isspace isupper items
join keys ljust lower lstrip partition pop remove replace reverse rfind rjust rpartition rsplit rstrip setdefault split
splitlines startswith strip update upper values zfill bit_length isascii isidentifier isprintable removeprefix removesuffix
__init__""".split()
LIBRARY = {"heapq": ["heappush", "heappop"]}
SPECIAL = ("__init__", "__eq__", "__repr__", "__str__", "__len__")
NOT_NAMES = """register mro elements open input law version_info with_traceback add_note exit id dir help vars type eval exec
compile globals locals""".split()
NOT_ALLOWED = (ast.AsyncFunctionDef, ast.GeneratorExp, ast.Global, ast.Lambda, ast.Set, ast.Div, ast.AnnAssign, ast.Match,
               ast.With, ast.NamedExpr, ast.Import)


def files():
    return sorted(FOLDER.glob("*.py"))


def trees():
    return [(path.name, ast.parse(path.read_text())) for path in files()]


class RulesTest(unittest.TestCase):
    def test_the_folder_holds_nothing_else(self):
        found = [path.name for path in FOLDER.iterdir() if path.name != "__pycache__"]
        self.assertEqual(sorted(found), [path.name for path in files()])
        self.assertIn("__init__.py", found)

    def test_sizes_and_characters(self):
        for path in files():
            lines = path.read_text().split("\n")
            self.assertLessEqual(len(lines) - 1, 399, path.name)
            for line in lines:
                self.assertLessEqual(len(line), 120, path.name)
                self.assertTrue(all(" " <= sign <= "~" for sign in line), (path.name, line))
        for name, tree in trees():
            for node in ast.walk(tree):
                if isinstance(node, ast.FunctionDef):
                    self.assertLessEqual(node.end_lineno - node.lineno + 1, 40, (name, node.name))

    def test_imports_name_the_file_that_defines(self):
        defined = dict(LIBRARY)
        for name, tree in trees():
            names = [node.name for node in tree.body if isinstance(node, (ast.FunctionDef, ast.ClassDef))]
            names += [target.id for node in tree.body if isinstance(node, ast.Assign) for target in node.targets]
            self.assertEqual(len(names), len(set(names)), name)
            defined["imagetalk." + name[:-3]] = names
        for name, tree in trees():
            for node in ast.walk(tree):
                if isinstance(node, ast.ImportFrom):
                    self.assertIn(node, tree.body)
                    self.assertEqual(node.level, 0)
                    for alias in node.names:
                        self.assertIn(alias.name, defined[node.module], name)

    def test_module_level(self):
        for name, tree in trees():
            for place, node in enumerate(tree.body):
                if place == 0:
                    self.assertTrue(ast.get_docstring(tree), name)
                elif isinstance(node, ast.Assign):
                    self.check_plain(node.value, [one.name for one in tree.body[:place] if isinstance(one, ast.FunctionDef)])
                else:
                    self.assertIsInstance(node, (ast.ImportFrom, ast.FunctionDef, ast.ClassDef), name)

    def check_plain(self, value, functions):
        """A plain value, in which functions defined above may stand."""
        if isinstance(value, ast.Name):
            self.assertIn(value.id, functions)
        elif isinstance(value, ast.Dict):
            for part in value.keys + value.values:
                self.assertNotIsInstance(part, (ast.Dict, ast.List))
                self.check_plain(part, functions)
        elif isinstance(value, ast.Tuple):
            for part in value.elts:
                self.assertNotIsInstance(part, (ast.Dict, ast.List))
                self.check_plain(part, functions)
        elif isinstance(value, ast.BinOp):
            self.check_plain(value.left, [])
            self.check_plain(value.right, [])
        else:
            ast.literal_eval(value)

    def test_what_is_compared_by_identity_and_by_type(self):
        for name, tree in trees():
            inside = [node.left for node in ast.walk(tree) if isinstance(node, ast.Compare)]
            inside += [one for node in ast.walk(tree) if isinstance(node, ast.Compare) for one in node.comparators]
            for node in ast.walk(tree):
                if isinstance(node, ast.Call) and isinstance(node.func, ast.Name) and node.func.id == "type":
                    self.assertIn(node, inside, name)
                if isinstance(node, ast.Compare) and isinstance(node.ops[0], (ast.Is, ast.IsNot)):
                    plain = isinstance(node.comparators[0], ast.Constant) and node.comparators[0].value in (None, True, False)
                    by_type = isinstance(node.left, ast.Call) and isinstance(node.left.func, ast.Name) and node.left.func.id == "type"
                    self.assertTrue(plain or by_type, (name, node.lineno))

    def test_errors_are_created_where_they_are_raised(self):
        for name, tree in trees():
            for node in ast.walk(tree):
                if isinstance(node, ast.Raise):
                    self.assertTrue(isinstance(node.exc, ast.Call) and isinstance(node.exc.func, ast.Name), (name, node.lineno))
                if isinstance(node, ast.ExceptHandler):
                    self.assertIsInstance(node.type, ast.Name, (name, node.lineno))

    def test_no_variable_has_the_name_of_a_class_or_an_import(self):
        for name, tree in trees():
            taken = {alias.name for node in tree.body if isinstance(node, ast.ImportFrom) for alias in node.names}
            taken |= {node.name for node in tree.body if isinstance(node, ast.ClassDef)}
            for node in ast.walk(tree):
                bound = [node.id] if isinstance(node, ast.Name) and not isinstance(node.ctx, ast.Load) else []
                bound += [node.arg] if isinstance(node, ast.arg) else []
                for one in bound:
                    self.assertNotIn(one, taken, name)

    def test_no_name_is_a_method_and_an_attribute(self):
        methods, attributes = set(), set()
        for _, tree in trees():
            for node in ast.walk(tree):
                if isinstance(node, ast.ClassDef):
                    methods |= {one.name for one in node.body if isinstance(one, ast.FunctionDef)}
                if isinstance(node, ast.Attribute) and isinstance(node.ctx, ast.Store):
                    attributes.add(node.attr)
        self.assertEqual(methods & attributes, set())
        self.assertEqual(attributes & set(METHODS) - {"count", "index"}, set())

    def test_no_two_files_import_from_each_other(self):
        wanted = {}
        for name, tree in trees():
            wanted[name[:-3]] = [node.module.removeprefix("imagetalk.") for node in tree.body if isinstance(node, ast.ImportFrom)]
        done = list(LIBRARY)
        while len(done) < len(wanted) + len(LIBRARY):
            ready = [name for name in wanted if name not in done and all(other in done for other in wanted[name])]
            self.assertTrue(ready, sorted(set(wanted) - set(done)))
            done += ready

    def test_forms_that_are_not_used(self):
        for name, tree in trees():
            for node in ast.walk(tree):
                self.assertNotIsInstance(node, NOT_ALLOWED, name)
                if isinstance(node, ast.Constant):
                    self.assertNotIsInstance(node.value, float, name)
                    self.assertNotIn("%", node.value if isinstance(node.value, str) else "", name)
                if isinstance(node, (ast.FunctionDef, ast.ClassDef)):
                    self.assertTrue(ast.get_docstring(node) or node.name == "__init__", (name, node.name))
                    self.assertFalse([one for one in node.decorator_list if one.id not in ("property",)], name)

    def test_names(self):
        for name, tree in trees():
            for node in ast.walk(tree):
                if isinstance(node, ast.Name) and isinstance(node.ctx, ast.Load) and hasattr(builtins, node.id):
                    self.assertIn(node.id, BUILTINS, name)
                bound = [node.id] if isinstance(node, ast.Name) and not isinstance(node.ctx, ast.Load) else []
                bound += [node.arg] if isinstance(node, ast.arg) else []
                bound += [node.name] if isinstance(node, (ast.FunctionDef, ast.ClassDef)) else []
                for one in bound:
                    if one not in SPECIAL:
                        self.assertFalse(hasattr(builtins, one) or one.startswith("__"), (name, one))
                        self.assertNotIn(one, NOT_NAMES, name)

    def test_methods_of_builtin_values(self):
        own = {node.name for _, tree in trees() for node in ast.walk(tree) if isinstance(node, ast.FunctionDef)}
        for name, tree in trees():
            for node in ast.walk(tree):
                if isinstance(node, ast.Call) and isinstance(node.func, ast.Attribute):
                    self.assertIn(node.func.attr, own.union(METHODS), name)

    def test_sets_stand_in_sorted_and_len_alone(self):
        for name, tree in trees():
            held = [argument for node in ast.walk(tree) if isinstance(node, ast.Call) for argument in node.args
                    if isinstance(node.func, ast.Name) and node.func.id in ("sorted", "len")]
            for node in ast.walk(tree):
                if isinstance(node, ast.SetComp):
                    self.assertIn(node, held, name)


if __name__ == "__main__":
    unittest.main()
