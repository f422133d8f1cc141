"""The form of the package's files, as far as a short test can see it: sizes, signs, imports, builtins, names."""

import ast
import builtins
import unittest
from pathlib import Path

PACKAGE = Path(__file__).resolve().parent.parent / "blockrooms"
FILES = sorted(PACKAGE.glob("*.py"))
LIBRARY = ("heapq", "math", "itertools", "collections")
BUILTINS = ("len range enumerate zip min max sum abs sorted reversed int str bool list tuple dict set isinstance ord "
            "repr any all divmod pow map iter next super property staticmethod classmethod ValueError KeyError "
            "IndexError LookupError TypeError").split()
METHODS = ("append clear copy count endswith extend find get index insert isalnum isalpha isdigit islower isspace "
           "isupper items join keys ljust lower lstrip partition pop remove replace reverse rfind rjust rpartition "
           "rsplit rstrip setdefault split splitlines startswith strip update upper values zfill bit_length sort add "
           "discard").split()
STATEMENTS = (ast.Global, ast.AsyncFunctionDef, ast.AsyncFor, ast.AsyncWith, ast.Import)
EXPRESSIONS = (ast.Await, ast.Div)


def trees():
    for path in FILES:
        yield path.name, ast.parse(path.read_text(encoding="ascii"))


class TestForm(unittest.TestCase):
    def test_the_folder_holds_nothing_else(self):
        self.assertIn(PACKAGE / "__init__.py", FILES)
        for path in PACKAGE.iterdir():
            self.assertTrue(path in FILES or path.name == "__pycache__", path)

    def test_signs_and_sizes(self):
        for path in FILES:
            text = path.read_text(encoding="ascii")
            lines = text.split("\n")
            self.assertLessEqual(len(lines), 400, path)
            self.assertLessEqual(max(len(line) for line in lines), 120, path)
            self.assertTrue(all(" " <= sign <= "~" or sign == "\n" for sign in text), path)

    def test_functions_have_forty_lines_at_most(self):
        for name, tree in trees():
            for node in ast.walk(tree):
                if isinstance(node, ast.FunctionDef):
                    self.assertLessEqual(node.end_lineno - node.lineno + 1, 40, (name, node.name))

    def test_imports_by_full_names_of_the_package(self):
        for name, tree in trees():
            for node in ast.walk(tree):
                if isinstance(node, ast.ImportFrom):
                    self.assertEqual(node.level, 0, name)
                    self.assertTrue(node.module.startswith("blockrooms.") or node.module in LIBRARY, name)
                    self.assertTrue(all(part.name != "*" for part in node.names), name)

    def test_statements_and_signs_that_are_left_out(self):
        for name, tree in trees():
            for node in ast.walk(tree):
                self.assertNotIsInstance(node, STATEMENTS + EXPRESSIONS, name)
                if isinstance(node, ast.Constant):
                    self.assertNotIsInstance(node.value, (float, complex), name)
                    self.assertFalse(isinstance(node.value, str) and "%" in node.value, name)

    def test_builtins_and_methods(self):
        for name, tree in trees():
            own = {node.name for _, other in trees() for node in ast.walk(other)
                   if isinstance(node, (ast.FunctionDef, ast.ClassDef))}
            for node in ast.walk(tree):
                if isinstance(node, ast.Name) and hasattr(builtins, node.id):
                    self.assertIn(node.id, BUILTINS, (name, node.lineno))
                    self.assertIsInstance(node.ctx, ast.Load, (name, node.lineno))
                if isinstance(node, ast.Call) and isinstance(node.func, ast.Attribute):
                    self.assertIn(node.func.attr, [*METHODS, "__init__", *own], (name, node.lineno))

    def test_is_stands_beside_none_and_truths_alone(self):
        for name, tree in trees():
            for node in ast.walk(tree):
                if isinstance(node, ast.Compare) and any(isinstance(sign, (ast.Is, ast.IsNot)) for sign in node.ops):
                    self.assertEqual(len(node.ops), 1, (name, node.lineno))
                    self.assertIsInstance(node.comparators[0], ast.Constant, (name, node.lineno))
                    self.assertIn(node.comparators[0].value, (None, True, False), (name, node.lineno))

    def test_no_two_files_import_from_each_other(self):
        met = {name[:-3]: {node.module.split(".")[1] for node in ast.walk(tree) if isinstance(node, ast.ImportFrom)
                           and node.module.startswith("blockrooms.")} for name, tree in trees()}
        while met:
            free = [name for name in met if not met[name] & set(met)]
            self.assertNotEqual(free, [], met)
            met = {name: met[name] for name in met if name not in free}

    def test_imported_names_are_used_and_mean_nothing_else(self):
        for name, tree in trees():
            imported = [part.name for node in tree.body if isinstance(node, ast.ImportFrom) for part in node.names]
            names = [node for node in ast.walk(tree) if isinstance(node, ast.Name)]
            for word in imported:
                self.assertIn(word, [node.id for node in names], (name, word))
            assigned = [node.id for node in names if not isinstance(node.ctx, ast.Load)]
            assigned += [node.arg for node in ast.walk(tree) if isinstance(node, ast.arg)]
            assigned += [node.name for node in ast.walk(tree) if isinstance(node, (ast.FunctionDef, ast.ClassDef))]
            self.assertEqual(set(imported) & set(assigned), set(), name)

    def test_each_name_is_bound_once_at_module_level(self):
        for name, tree in trees():
            bound = [part.name for node in tree.body if isinstance(node, ast.ImportFrom) for part in node.names]
            bound += [node.name for node in tree.body if isinstance(node, (ast.FunctionDef, ast.ClassDef))]
            bound += [node.targets[0].id for node in tree.body if isinstance(node, ast.Assign)]
            self.assertEqual(len(bound), len(set(bound)), name)

    def test_handlers_name_errors_of_the_package(self):
        for name, tree in trees():
            for node in ast.walk(tree):
                if isinstance(node, ast.ExceptHandler):
                    self.assertIsInstance(node.type, ast.Name, (name, node.lineno))
                    self.assertTrue(node.type.id.startswith("No"), (name, node.lineno))

    def test_no_generators_no_lambdas_no_decorators(self):
        for name, tree in trees():
            for node in ast.walk(tree):
                self.assertNotIsInstance(node, (ast.GeneratorExp, ast.Lambda, ast.Yield, ast.SetComp), name)
                if isinstance(node, (ast.FunctionDef, ast.ClassDef)):
                    self.assertEqual(node.decorator_list, [], (name, node.name))


if __name__ == "__main__":
    unittest.main()
