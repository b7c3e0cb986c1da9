"""Some rules of the language of the package that are easily judged by its files."""

import ast
import builtins
import os
import unittest

FOLDER = os.path.join(os.path.dirname(os.path.dirname(os.path.abspath(__file__))), "markthenpurge")
BUILTINS = """
    len range enumerate zip min max sum abs sorted reversed int str bool bytes list tuple dict set isinstance ord repr
    any all divmod pow map iter next Exception ValueError TypeError KeyError IndexError LookupError ZeroDivisionError
    NotImplemented property
""".split()
METHODS = """
    append clear copy count endswith extend find get index insert isalnum isalpha isdigit islower isspace isupper items
    join keys ljust lower lstrip partition pop remove replace reverse rfind rjust rpartition rsplit rstrip setdefault
    split splitlines startswith strip update upper values zfill bit_length
""".split()
BARRED = """
    typing enum Enum Generic Protocol ABC namedtuple dataclass overload contextmanager abstractmethod
""".split()
LIBRARY = {"heapq", "math", "itertools", "collections"}
KINDS = (ast.FunctionDef, ast.ClassDef)


def sources():
    found = {}
    for name in sorted(os.listdir(FOLDER)):
        if name.endswith(".py"):
            with open(os.path.join(FOLDER, name), encoding="utf-8") as file:
                found[name] = file.read()
    return found


def trees():
    return {name: ast.parse(text) for name, text in sources().items()}


class Language(unittest.TestCase):
    def test_the_folder_holds_nothing_but_plain_files(self):
        names = [name for name in os.listdir(FOLDER) if name != "__pycache__"]
        self.assertEqual(sorted(names), sorted(sources()))
        self.assertIn("__init__.py", names)

    def test_sizes_and_characters(self):
        for name, text in sources().items():
            lines = text.split("\n")
            self.assertLess(len(lines), 400, name)
            self.assertLessEqual(max(len(line) for line in lines), 120, name)
            self.assertTrue(all(" " <= sign <= "~" for line in lines for sign in line), name)

    def test_sizes_of_functions(self):
        for name, tree in trees().items():
            for node in ast.walk(tree):
                if isinstance(node, ast.FunctionDef):
                    self.assertLessEqual(node.end_lineno - node.lineno + 1, 40, (name, node.name))

    def test_imports_name_the_file_that_defines_the_name(self):
        files = trees()
        for name, tree in files.items():
            for node in ast.walk(tree):
                self.assertNotIsInstance(node, ast.Import, name)
                if not isinstance(node, ast.ImportFrom) or node.module in LIBRARY:
                    continue
                package, home = node.module.split(".")
                self.assertEqual((package, node.level), ("markthenpurge", 0), name)
                defined = [part.name for part in files[home + ".py"].body if isinstance(part, KINDS)]
                for part in node.names:
                    self.assertIsNone(part.asname)
                    self.assertIn(part.name, defined, name)

    def test_imports_are_used_and_not_named_again(self):
        for name, tree in trees().items():
            imported = [part.name for node in ast.walk(tree) if isinstance(node, ast.ImportFrom) for part in node.names]
            used = [node.id for node in ast.walk(tree) if isinstance(node, ast.Name) and isinstance(node.ctx, ast.Load)]
            self.assertEqual(len(imported), len(set(imported)), name)
            self.assertEqual([word for word in imported if word not in used], [], name)
            self.assertEqual([word for word in bound_names(tree) if word in imported], [], name)

    def test_names_of_builtins(self):
        # Examples that are run in a test put "_" among the builtins.
        foreign = set(dir(builtins)) - set(BUILTINS) - {"_"}
        for name, tree in trees().items():
            used = [node.id for node in ast.walk(tree) if isinstance(node, ast.Name)]
            self.assertEqual([word for word in used if word in foreign], [], name)
            self.assertEqual([word for word in bound_names(tree) if word in BUILTINS or word in foreign], [], name)

    def test_methods(self):
        own = [node.name for tree in trees().values() for node in ast.walk(tree) if isinstance(node, ast.FunctionDef)]
        for name, tree in trees().items():
            for node in ast.walk(tree):
                if isinstance(node, ast.Call) and isinstance(node.func, ast.Attribute):
                    self.assertIn(node.func.attr, METHODS + own, name)

    def test_properties_have_names_of_their_own(self):
        found = [node for tree in trees().values() for node in ast.walk(tree) if isinstance(node, ast.ClassDef)]
        methods = [part for node in found for part in node.body if isinstance(part, ast.FunctionDef)]
        properties = [part.name for part in methods if part.decorator_list]
        others = [part.name for part in methods if not part.decorator_list]
        self.assertEqual([name for name in properties if name in others or name in METHODS], [])

    def test_no_files_import_from_each_other(self):
        found = {name[:-3]: [] for name in sources()}
        for name, tree in trees().items():
            homes = [node.module for node in ast.walk(tree) if isinstance(node, ast.ImportFrom)]
            found[name[:-3]] = [home.split(".")[1] for home in homes if home not in LIBRARY]
        while found:
            free = [name for name, homes in found.items() if not any(home in found for home in homes)]
            self.assertNotEqual(free, [], found)
            for name in free:
                del found[name]

    def test_nodes_that_stand_nowhere(self):
        barred = (ast.GeneratorExp, ast.AsyncFunctionDef, ast.Div, ast.Global, ast.JoinedStr, ast.AnnAssign)
        for name, tree in trees().items():
            for node in ast.walk(tree):
                self.assertNotIsInstance(node, barred, (name, getattr(node, "lineno", 0)))

    def test_strings_and_words(self):
        for name, tree in trees().items():
            for node in ast.walk(tree):
                if isinstance(node, ast.Constant) and isinstance(node.value, str):
                    self.assertFalse("%" in node.value, name)
                    self.assertFalse(any(word in node.value for word in BARRED), name)
                self.assertFalse(isinstance(node, ast.Constant) and isinstance(node.value, float), name)


def bound_names(tree):
    """Functions, classes, parameters and variables that the file gives a meaning (imports aside)."""
    found = [node.arg for node in ast.walk(tree) if isinstance(node, ast.arg)]
    found += [node.id for node in ast.walk(tree) if isinstance(node, ast.Name) and isinstance(node.ctx, ast.Store)]
    return found + [node.name for node in ast.walk(tree) if isinstance(node, KINDS)]


if __name__ == "__main__":
    unittest.main()
