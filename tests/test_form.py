"""The form of the package: its files, their sizes and characters, what they import, and the interface."""

import ast
import builtins
import os
import unittest

from tests.helping import HOUSE, INTERFACE

FOLDER = os.path.join(os.path.dirname(os.path.dirname(os.path.abspath(__file__))), "stilewalks")
LIBRARY = ("__future__", "heapq", "math", "itertools", "collections")
BARRED = (ast.AsyncFunctionDef, ast.Global, ast.Div, ast.Import, ast.Await, ast.AsyncFor, ast.AsyncWith)


BUILTINS = """len range enumerate zip min max sum abs sorted reversed int str bool list tuple dict set isinstance ord repr any all
    divmod Exception""".split()
METHODS = """append clear copy count endswith extend find get index insert isalnum isalpha isdigit islower isspace isupper items join
    keys ljust lower lstrip partition pop remove replace reverse rfind rjust rpartition rsplit rstrip setdefault split splitlines
    startswith strip update upper values zfill bit_length add discard removeprefix removesuffix isascii""".split()


class Form(unittest.TestCase):

    def setUp(self):
        self.files = {}
        for name in sorted(os.listdir(FOLDER)):
            if name != "__pycache__":
                self.assertRegex(name, r"\A[a-z_][a-z0-9_]*\.py\Z")
                with open(os.path.join(FOLDER, name), encoding="utf-8", newline="") as file:
                    self.files[name[:-3]] = file.read()
        self.trees = {name: ast.parse(text) for name, text in self.files.items()}

    def test_files(self):
        self.assertIn("__init__", self.files)
        for name, text in self.files.items():
            self.assertTrue(all(letter == "\n" or " " <= letter <= "~" for letter in text), name)
            rows = text.split("\n")
            self.assertLessEqual(len(rows), 400, name)
            self.assertEqual([row for row in rows if len(row) > 120], [], name)

    def test_functions(self):
        for name, tree in self.trees.items():
            for node in ast.walk(tree):
                self.assertNotIsInstance(node, BARRED, name)
                if isinstance(node, ast.FunctionDef):
                    self.assertLessEqual(node.end_lineno - node.lineno + 1, 40, (name, node.name))
                    self.assertEqual(node.decorator_list, [], (name, node.name))
                if isinstance(node, ast.Constant):
                    self.assertNotIsInstance(node.value, (float, complex), name)

    def test_imports(self):
        for name, tree in self.trees.items():
            for node in ast.walk(tree):
                if isinstance(node, ast.ImportFrom):
                    self.assertIn(node, tree.body, name)
                    self.assertEqual(node.level, 0, name)
                    own = node.module.startswith("stilewalks.") and node.module[11:] in self.files
                    self.assertTrue(own or node.module in LIBRARY, (name, node.module))
                    self.assertTrue(all(alias.asname is None and alias.name != "*" for alias in node.names), name)
                    if own:
                        self.assertEqual([alias.name for alias in node.names if alias.name not in self.defined(node.module[11:])], [])

    def test_names(self):
        """No variable has the name of a builtin or of an import of its file; only some builtins and methods are used."""
        for name, tree in self.trees.items():
            imported = {alias.name for node in tree.body if isinstance(node, ast.ImportFrom) for alias in node.names}
            made = {node.id for node in ast.walk(tree) if isinstance(node, ast.Name) and isinstance(node.ctx, ast.Store)}
            made |= {node.arg for node in ast.walk(tree) if isinstance(node, ast.arg)}
            top = {node.name for node in tree.body if isinstance(node, (ast.FunctionDef, ast.ClassDef))}
            self.assertEqual(made & (imported | top), set(), name)
            self.assertEqual((made | top) & set(dir(builtins)), set(), name)
            read = {node.id for node in ast.walk(tree) if isinstance(node, ast.Name) and isinstance(node.ctx, ast.Load)}
            self.assertEqual(read - made - imported - top - set(BUILTINS), set(), name)
            self.assertEqual(imported - read, set(), name)
            called = {node.func.attr for node in ast.walk(tree) if isinstance(node, ast.Call) and isinstance(node.func, ast.Attribute)}
            own = {method.name for node in tree.body if isinstance(node, ast.ClassDef) for method in node.body if isinstance(method, ast.FunctionDef)}
            self.assertEqual(called - set(METHODS) - own, set(), name)

    def test_strings_and_comparisons(self):
        for name, tree in self.trees.items():
            for node in ast.walk(tree):
                if isinstance(node, ast.Constant) and isinstance(node.value, str):
                    self.assertNotIn("%", node.value, name)
                if isinstance(node, ast.Compare):
                    for way, thing in zip(node.ops, node.comparators):
                        if isinstance(way, (ast.Is, ast.IsNot)):
                            self.assertTrue(isinstance(thing, ast.Constant) and thing.value in (None, True, False), name)
                if isinstance(node, ast.Call):
                    self.assertFalse(any(isinstance(argument, ast.Starred) for argument in node.args), name)

    def defined(self, name):
        """The names that a file defines itself."""
        nodes = self.trees[name].body
        made = [node.name for node in nodes if isinstance(node, (ast.FunctionDef, ast.ClassDef))]
        return made + [target.id for node in nodes if isinstance(node, ast.Assign) for target in node.targets]

    def test_interface(self):
        for name, functions in INTERFACE.items():
            found = {node.name: node.args for node in self.trees[name].body if isinstance(node, ast.FunctionDef)}
            for function, parameters in functions.items():
                arguments = found[function]
                self.assertEqual(tuple(argument.arg for argument in arguments.args), parameters, function)
                self.assertEqual((arguments.posonlyargs, arguments.kwonlyargs, arguments.defaults), ([], [], []))
                self.assertEqual((arguments.vararg, arguments.kwarg), (None, None))

    def test_house(self):
        """The class of the interface has all its methods in its own body, and no method is an attribute."""
        bodies = [node.body for node in self.trees["houses"].body if isinstance(node, ast.ClassDef) and node.name == "House"]
        methods = {node.name: [argument.arg for argument in node.args.args] for node in bodies[0] if isinstance(node, ast.FunctionDef)}
        self.assertEqual(methods["__init__"], ["self", "r"])
        for name, parameters in HOUSE.items():
            self.assertEqual(methods[name], ["self", *parameters])
        self.assertEqual([name for name in methods if name.startswith("__")], ["__init__", "__eq__"])
        assigned = {node.attr for node in ast.walk(self.trees["houses"]) if isinstance(node, ast.Attribute) and isinstance(node.ctx, ast.Store)}
        self.assertEqual(assigned & set(methods), set())


if __name__ == "__main__":
    unittest.main()
