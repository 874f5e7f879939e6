"""Plain checks of the files of the package: names, sizes, signs, and what a file may contain."""

import ast
import builtins
import pathlib
import re
import unittest

FOLDER = pathlib.Path(__file__).resolve().parent.parent / "sharedpipe"
FILES = sorted(FOLDER.rglob("*.py"))
LIBRARY = {"heapq", "math", "itertools", "collections"}
BUILTINS = {
    "len", "range", "enumerate", "zip", "min", "max", "sum", "abs", "sorted", "reversed", "int", "str", "bool", "list",
    "tuple", "dict", "set", "isinstance", "ord", "repr", "any", "all", "divmod", "iter", "next", "super", "map",
}
BARRED = {"type", "typing", "enum", "Enum", "namedtuple", "abstractmethod", "dataclass", "register", "mro", "elements",
          "open", "input", "law", "eval", "exec", "exit", "compile", "globals", "locals", "vars", "dir", "id",
          "credits"}
# Accounts have += and -=, beside which the language bars these signs in much else: the package does without.
NODES = (ast.Global, ast.AsyncFunctionDef, ast.Div, ast.MatMult, ast.Import)


def trees():
    return [(path, ast.parse(path.read_text())) for path in FILES]


def nodes(kinds):
    return [(path.name, node) for path, tree in trees() for node in ast.walk(tree) if isinstance(node, kinds)]


class Language(unittest.TestCase):
    def test_files(self):
        self.assertGreater(len(FILES), 3)
        for path in FOLDER.rglob("*"):
            if "__pycache__" not in path.parts and path.is_file():
                self.assertRegex(path.name, r"^(__init__|[a-z][a-z0-9_]*)\.py$")

    def test_signs_and_sizes(self):
        for path in FILES:
            text = path.read_text()
            self.assertTrue(all(" " <= sign <= "~" or sign == "\n" for sign in text), path)
            self.assertLess(len(text.splitlines()), 400, path)
            for line in text.splitlines():
                self.assertLessEqual(len(line), 120, line)
                self.assertEqual(line, line.rstrip())

    def test_functions_are_short(self):
        for name, node in nodes(ast.FunctionDef):
            self.assertLessEqual(node.end_lineno - node.lineno + 1, 40, (name, node.name))

    def test_functions_and_classes_say_what_they_do(self):
        for name, node in nodes((ast.FunctionDef, ast.ClassDef)):
            if not node.name.startswith("__"):
                self.assertIsNotNone(ast.get_docstring(node), (name, node.name))

    def test_imports(self):
        for name, node in nodes(ast.ImportFrom):
            self.assertEqual(node.level, 0)
            if node.module not in LIBRARY:
                self.assertRegex(node.module, r"^sharedpipe\.[a-z_]+$", name)
                self.assertTrue((FOLDER / (node.module.split(".")[1] + ".py")).is_file(), node.module)
            self.assertTrue(all(part.name != "*" and part.asname is None for part in node.names), name)

    def test_no_two_files_import_from_each_other(self):
        reached = {path.stem: {node.module.split(".")[-1] for node in tree.body if isinstance(node, ast.ImportFrom)}
                   for path, tree in trees()}
        for _ in reached:
            for names in reached.values():
                names.update(*[reached[name] for name in names if name in reached])
        for name, names in reached.items():
            self.assertNotIn(name, names)

    def test_statements_that_are_not_used(self):
        self.assertEqual([(name, node.lineno) for name, node in nodes(NODES)], [])

    def test_decorators(self):
        for name, node in nodes((ast.FunctionDef, ast.ClassDef)):
            for mark in node.decorator_list:
                self.assertIn(ast.unparse(mark), ("property", "staticmethod", "classmethod"), name)

    def test_constants(self):
        for name, node in nodes(ast.Constant):
            self.assertNotIsInstance(node.value, (float, complex), name)
            if isinstance(node.value, str):
                self.assertNotIn(chr(37), node.value, name)

    def test_names(self):
        for path, tree in trees():
            for node in ast.walk(tree):
                for field in ("id", "name", "attr", "arg"):
                    word = getattr(node, field, None)
                    if isinstance(word, str):
                        self.assertNotIn(word, BARRED, path)
                        self.assertRegex(word, r"^(_?[A-Za-z][A-Za-z0-9_]*|_|__[a-z]+__)$", path)

    def test_builtins(self):
        # Two are functions that are handed over.
        known = {node.name for _, node in nodes((ast.FunctionDef, ast.ClassDef))} | {"act", "answer"}
        for name, node in nodes(ast.Call):
            if isinstance(node.func, ast.Name):
                self.assertTrue(node.func.id in BUILTINS | known | {"lcm"} or node.func.id.endswith("Error"),
                                (name, node.func.id))
                self.assertFalse(node.func.id in ("any", "all", "min", "max", "sum", "sorted")
                                 and node.args and isinstance(node.args[0], ast.GeneratorExp), (name, node.lineno))

    def test_builtins_are_not_given_another_meaning(self):
        for name, node in nodes((ast.FunctionDef, ast.ClassDef)):
            self.assertNotIn(node.name, BUILTINS, name)
        for name, node in nodes(ast.arg):
            self.assertNotIn(node.arg, BUILTINS, name)
        for name, node in nodes(ast.Name):
            if isinstance(node.ctx, ast.Store):
                self.assertNotIn(node.id, BUILTINS, name)

    def test_names_of_imports_and_classes_mean_nothing_else(self):
        for path, tree in trees():
            taken = {part.name for node in tree.body if isinstance(node, ast.ImportFrom) for part in node.names}
            taken |= {node.name for node in tree.body if isinstance(node, ast.ClassDef)}
            for node in ast.walk(tree):
                if isinstance(node, ast.arg):
                    self.assertNotIn(node.arg, taken, path)
                if isinstance(node, ast.Name) and isinstance(node.ctx, ast.Store):
                    self.assertNotIn(node.id, taken | set(dir(builtins)), path)
            bound = [node.name for node in tree.body if isinstance(node, (ast.FunctionDef, ast.ClassDef))]
            bound += [part.name for node in tree.body if isinstance(node, ast.ImportFrom) for part in node.names]
            self.assertEqual(len(bound), len(set(bound)), path)

    def test_all_that_is_imported_is_used(self):
        for path, tree in trees():
            for node in tree.body:
                if isinstance(node, ast.ImportFrom):
                    used = {other.id for other in ast.walk(tree) if isinstance(other, ast.Name)}
                    self.assertEqual([part.name for part in node.names if part.name not in used], [], path)

    def test_imports_name_the_file_that_defines_the_name(self):
        defined = {path.stem: {node.name for node in tree.body if isinstance(node, (ast.FunctionDef, ast.ClassDef))}
                   | {target.id for node in tree.body if isinstance(node, ast.Assign) for target in node.targets}
                   for path, tree in trees()}
        for name, node in nodes(ast.ImportFrom):
            if node.module not in LIBRARY:
                for part in node.names:
                    self.assertIn(part.name, defined[node.module.split(".")[1]], name)

    def test_methods(self):
        known = set("append clear copy count endswith extend find get index insert items join keys partition pop replace "
                    "split startswith strip values".split())
        methods = {node.name for _, node in nodes(ast.FunctionDef)}
        for name, node in nodes(ast.Call):
            if isinstance(node.func, ast.Attribute):
                self.assertIn(node.func.attr, known | methods, (name, node.lineno))

    def test_no_assignment_adds_in_place(self):
        # Where a class has += of its own, the language lets few other ones stand.
        for name, node in nodes(ast.AugAssign):
            self.assertEqual((name, ast.unparse(node)), ("pools.py", "account -= many"))

    def test_words(self):
        for path in FILES:
            self.assertIsNone(re.search(r"\b_wall|_WallAttr|\(type\)|Meta\b|metaclass=", path.read_text()), path)
