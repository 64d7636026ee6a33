"""The rules of LANGUAGE.md that can be counted: files, sizes, characters, imports, builtins."""

import ast
import builtins
import pathlib
import unittest

PACKAGE = pathlib.Path(__file__).resolve().parent.parent / "fallcuts"
LIBRARY = {
    "heapq": {"heappush", "heappop", "heapify", "heapreplace", "heappushpop"},
    "math": {"gcd", "lcm", "isqrt", "comb", "perm", "factorial"},
    "itertools": {"product", "combinations", "permutations"},
}
BUILTINS = set("""
len range enumerate zip min max sum abs sorted reversed int str bool bytes list tuple dict set isinstance ord repr
any all divmod map iter next super property staticmethod classmethod NotImplemented Exception ValueError TypeError
KeyError IndexError LookupError ZeroDivisionError ArithmeticError OverflowError RuntimeError NotImplementedError
AttributeError StopIteration
""".split())


class FormTest(unittest.TestCase):

    def setUp(self):
        self.texts = {path.name: path.read_text("utf-8") for path in PACKAGE.glob("*.py")}
        self.trees = {name: ast.parse(text) for name, text in self.texts.items()}

    def nodes(self, kind):
        return [(name, node) for name, tree in self.trees.items() for node in ast.walk(tree) if isinstance(node, kind)]

    def test_the_package_is_one_folder_of_python_files(self):
        others = [path.name for path in PACKAGE.iterdir() if path.name not in self.texts]
        self.assertEqual([name for name in others if name != "__pycache__"], [])
        self.assertIn("__init__.py", self.texts)

    def test_characters_and_sizes(self):
        for name, text in self.texts.items():
            lines = text.split("\n")
            with self.subTest(name):
                self.assertTrue(all(sign == "\n" or " " <= sign <= "~" for sign in text))
                self.assertLessEqual(len(lines), 399)
                self.assertLessEqual(max(len(line) for line in lines), 120)

    def test_functions_have_at_most_40_lines_and_a_docstring(self):
        for name, node in self.nodes(ast.FunctionDef):
            with self.subTest(name, function=node.name):
                self.assertLessEqual(node.end_lineno - node.lineno + 1, 40)
                self.assertTrue(node.name == "__init__" or ast.get_docstring(node))

    def test_imports_come_from_the_package_or_the_library(self):
        self.assertEqual(self.nodes(ast.Import), [])
        for name, node in self.nodes(ast.ImportFrom):
            names = {alias.name for alias in node.names}
            with self.subTest(name, module=node.module):
                self.assertTrue(node.level == 0 and "*" not in names)
                if not node.module.startswith("fallcuts."):
                    self.assertLessEqual(names, LIBRARY[node.module])

    def test_only_allowed_builtins_are_named(self):
        for name, node in self.nodes(ast.Name):
            if hasattr(builtins, node.id):
                self.assertIn(node.id, BUILTINS, name)

    def test_statements_and_signs_that_are_not_allowed(self):
        self.assertEqual(self.nodes((ast.Global, ast.AsyncFunctionDef, ast.Await, ast.Div)), [])
        for name, node in self.nodes(ast.Constant):
            self.assertNotIsInstance(node.value, (float, complex), name)
            if isinstance(node.value, str):
                self.assertNotIn("%", node.value, name)


if __name__ == "__main__":
    unittest.main()
