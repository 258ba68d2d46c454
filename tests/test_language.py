"""Those rules of the language that a look at the files can tell."""

import ast
import builtins
import os
import unittest

PACKAGE = os.path.join(os.path.dirname(os.path.dirname(__file__)), "maypoint")

LIBRARY = {"heapq", "math", "itertools", "collections"}

BARRED = (ast.AsyncFunctionDef, ast.Await, ast.AsyncFor, ast.AsyncWith, ast.Import, ast.Div, ast.MatMult)

CALLED = set("""len range enumerate zip min max sum abs sorted reversed int str bool bytes list tuple dict set
isinstance ord repr any all divmod pow""".split())

WORDS = ("type", "typing", "enum", "Enum", "Generic", "Protocol", "ABC", "namedtuple", "eval", "exec", "open",
         "input", "globals", "locals", "vars", "dir", "id", "law", "elements", "register", "mro", "chr")


def files():
    return sorted(os.listdir(PACKAGE))


def text_of(file):
    with open(os.path.join(PACKAGE, file), encoding="utf-8") as text:
        return text.read()


class Language(unittest.TestCase):

    def test_files(self):
        for file in files():
            if file != "__pycache__":
                self.assertRegex(file, r"^[a-z_0-9]+\.py$")
        self.assertIn("__init__.py", files())

    def each_file(self):
        return [(file, text_of(file)) for file in files() if file.endswith(".py")]

    def each_node(self):
        return [(file, node) for file, text in self.each_file() for node in ast.walk(ast.parse(text))]

    def test_sizes_and_signs(self):
        for file, text in self.each_file():
            lines = text.split("\n")
            self.assertLessEqual(len(lines), 400, file)
            for line in lines:
                self.assertLessEqual(len(line), 120, (file, line))
                self.assertTrue(all(" " <= sign <= "~" for sign in line), (file, line))

    def test_functions_are_short(self):
        for file, node in self.each_node():
            if isinstance(node, ast.FunctionDef):
                self.assertLessEqual(node.end_lineno - node.lineno + 1, 40, (file, node.name))
                self.assertTrue(ast.get_docstring(node) or node.name == "__init__", (file, node.name))

    def test_imports(self):
        for file, node in self.each_node():
            if isinstance(node, ast.ImportFrom):
                self.assertEqual(node.level, 0)
                self.assertTrue(node.module.startswith("maypoint.") or node.module in LIBRARY, (file, node.module))

    def test_barred(self):
        for file, node in self.each_node():
            self.assertNotIsInstance(node, BARRED, file)
            if isinstance(node, ast.Constant):
                self.assertNotIsInstance(node.value, (float, complex), file)
            if isinstance(node, ast.Name):
                self.assertNotIn(node.id, WORDS, file)
            if isinstance(node, ast.ExceptHandler):
                self.assertIsNotNone(node.type, file)

    def test_builtins(self):
        for file, node in self.each_node():
            if isinstance(node, ast.Call) and isinstance(node.func, ast.Name) and hasattr(builtins, node.func.id):
                self.assertIn(node.func.id, CALLED, file)
            if isinstance(node, ast.Name) and isinstance(node.ctx, ast.Store):
                self.assertFalse(hasattr(builtins, node.id), (file, node.id))
            if isinstance(node, ast.arg):
                self.assertFalse(hasattr(builtins, node.arg), (file, node.arg))
