"""The rules of LANGUAGE.md that can be counted: files, sizes, characters, imports, names, statements, methods."""

import ast
import builtins
import io
import pathlib
import re
import tokenize
import unittest

PACKAGE = pathlib.Path(__file__).resolve().parent.parent / "fallcuts"
LIBRARY = {
    "heapq": {"heappush", "heappop", "heapify", "heapreplace", "heappushpop"},
    "math": {"gcd", "lcm", "isqrt", "comb", "perm", "factorial"},
    "itertools": {"product", "combinations", "permutations"},
}
BUILTINS = set("""
len range enumerate zip min max sum abs sorted reversed int str bool bytes list tuple dict set isinstance ord repr
any all divmod map iter next super property staticmethod classmethod NotImplemented Exception ValueError TypeError
KeyError IndexError LookupError ZeroDivisionError ArithmeticError OverflowError RuntimeError NotImplementedError
AttributeError StopIteration
""".split())
METHODS = set("""
append clear copy count endswith extend find get index insert isalnum isalpha isdigit islower isspace isupper items join
keys ljust lower lstrip partition pop remove replace reverse rfind rjust rpartition rsplit rstrip setdefault split
splitlines startswith strip update upper values zfill bit_length title capitalize swapcase casefold center expandtabs
removeprefix removesuffix rindex isascii isdecimal isnumeric istitle isidentifier isprintable
""".split())
# The double-underscore methods of L5 that the package may need.
DOUBLE = {"__init__", "__eq__", "__repr__", "__str__", "__len__", "__enter__", "__exit__", "__call__", "__iter__"}
# Names of L26 and L17 that no attribute has.
BARRED_ATTRIBUTES = set("""
items keys values pop update append clear extend insert remove reverse setdefault sort args encode decode hex fromhex
format format_map mro register elements open input law version_info with_traceback add_note as_integer_ratio bit_count
conjugate from_bytes is_integer to_bytes
""".split())
# Words of L17: the first ones stand in no code, the others name nothing.
BARRED_WORDS = set("""
type typing typing_extensions enum Enum IntEnum StrEnum Flag IntFlag Generic Protocol ABC ABCMeta namedtuple NamedTuple
TypedDict TYPE_CHECKING abstractmethod dataclass overload contextmanager
""".split())
BARRED_NAMES = set("""
register mro elements open input law version_info with_traceback add_note attrgetter breakpoint builtins compile
copyright credits delattr dir eval exec exit gc getattr globals hasattr help id importlib license locals methodcaller
os quit setattr type vars sys
""".split())
STATEMENTS = (
    ast.Assign, ast.AugAssign, ast.If, ast.While, ast.For, ast.Return, ast.Break, ast.Continue, ast.Pass, ast.Raise,
    ast.Assert, ast.Delete, ast.Nonlocal, ast.Match, ast.With, ast.Try, ast.Expr, ast.FunctionDef, ast.ClassDef,
    ast.ImportFrom)


class FormTest(unittest.TestCase):

    def setUp(self):
        self.texts = {path.name: path.read_text("utf-8") for path in PACKAGE.glob("*.py")}
        self.trees = {name: ast.parse(text) for name, text in self.texts.items()}

    def nodes(self, kind):
        return [(name, node) for name, tree in self.trees.items() for node in ast.walk(tree) if isinstance(node, kind)]

    def test_the_package_is_one_folder_of_python_files(self):
        others = [path.name for path in PACKAGE.iterdir() if path.name not in self.texts]
        self.assertEqual([name for name in others if name != "__pycache__"], [])
        self.assertIn("__init__.py", self.texts)

    def test_characters_and_sizes(self):
        for name, text in self.texts.items():
            lines = text.split("\n")
            with self.subTest(name):
                self.assertTrue(all(sign == "\n" or " " <= sign <= "~" for sign in text))
                self.assertLessEqual(len(lines), 399)
                self.assertLessEqual(max(len(line) for line in lines), 120)

    def test_functions_have_at_most_40_lines_and_a_docstring(self):
        for name, node in self.nodes(ast.FunctionDef):
            with self.subTest(name, function=node.name):
                self.assertLessEqual(node.end_lineno - node.lineno + 1, 40)
                # In the rows of an __exit__ no docstring may stand.
                self.assertTrue(node.name in DOUBLE or ast.get_docstring(node))

    def test_imports_come_from_the_package_or_the_library(self):
        self.assertEqual(self.nodes(ast.Import), [])
        for name, node in self.nodes(ast.ImportFrom):
            names = {alias.name for alias in node.names}
            with self.subTest(name, module=node.module):
                self.assertTrue(node.level == 0 and "*" not in names)
                if not node.module.startswith("fallcuts."):
                    self.assertLessEqual(names, LIBRARY[node.module])

    def test_only_allowed_builtins_are_named(self):
        for name, node in self.nodes(ast.Name):
            if hasattr(builtins, node.id):
                self.assertIn(node.id, BUILTINS, name)

    def test_statements_and_signs_that_are_not_allowed(self):
        self.assertEqual(self.nodes((ast.Global, ast.AsyncFunctionDef, ast.Await, ast.Div)), [])
        for name, node in self.nodes(ast.Constant):
            self.assertNotIsInstance(node.value, (float, complex), name)
            if isinstance(node.value, str):
                self.assertNotIn("%", node.value, name)

    def test_only_allowed_statements_stand_in_a_file(self):
        for name, node in self.nodes(ast.stmt):
            self.assertIsInstance(node, STATEMENTS, (name, node.lineno))
        for name, tree in self.trees.items():
            for node in tree.body:
                self.assertIsInstance(node, (ast.Expr, ast.ImportFrom, ast.FunctionDef, ast.ClassDef, ast.Assign), name)
                if isinstance(node, ast.Expr):
                    self.assertIs(node, tree.body[0])
        for name, node in self.nodes(ast.FunctionDef):
            signs = [getattr(sign, "id", getattr(sign, "attr", "")) for sign in node.decorator_list]
            self.assertLessEqual(set(signs), {"property", "setter", "staticmethod", "classmethod"}, name)

    def test_no_two_files_import_from_each_other_and_names_come_from_their_own_file(self):
        above = {name: [] for name in self.trees}
        for name, node in self.nodes(ast.ImportFrom):
            if node.module.startswith("fallcuts."):
                origin = node.module.split(".")[1] + ".py"
                above[name].append(origin)
                self.assertLessEqual({alias.name for alias in node.names}, self.defined(origin), name)
                self.assertEqual([alias.asname for alias in node.names if alias.asname], [])
        while above:
            first = [name for name in above if not set(above[name]) & set(above)]
            self.assertTrue(first, above)
            above = {name: above[name] for name in above if name not in first}

    def defined(self, name):
        """Return the set of the names that a file defines."""
        body = self.trees[name].body
        values = [target.id for node in body if isinstance(node, ast.Assign) for target in node.targets]
        return set(values) | {node.name for node in body if isinstance(node, (ast.FunctionDef, ast.ClassDef))}

    def test_what_is_imported_or_defined_is_used_and_no_name_hides_another_one(self):
        for name, tree in self.trees.items():
            imported = [alias.name for node in tree.body if isinstance(node, ast.ImportFrom) for alias in node.names]
            nodes = list(ast.walk(tree))
            read = {node.id for node in nodes if isinstance(node, ast.Name) and isinstance(node.ctx, ast.Load)}
            bound = [node.id for node in nodes if isinstance(node, ast.Name) and isinstance(node.ctx, ast.Store)]
            bound += [node.arg for node in nodes if isinstance(node, ast.arg)]
            functions = {node.name for node in tree.body if isinstance(node, (ast.FunctionDef, ast.ClassDef))}
            with self.subTest(name):
                self.assertLessEqual(set(imported), read)
                self.assertEqual(set(bound) & (set(imported) | functions | set(dir(builtins)) | BARRED_NAMES), set())
                self.assertEqual(len(imported), len(set(imported) - self.defined(name)))
                self.assertEqual([word for word in bound if not re.fullmatch("_|_?[A-Za-z][A-Za-z0-9_]*", word)], [])

    def test_no_barred_word_stands_outside_comments_and_docstrings(self):
        for name, text in self.texts.items():
            for token in tokenize.generate_tokens(io.StringIO(text).readline):
                string = token.type == tokenize.STRING and not token.string.startswith('"""')
                if string or token.type == tokenize.NAME:
                    self.assertEqual(set(re.findall("[A-Za-z_]+", token.string)) & BARRED_WORDS, set(), name)

    def test_only_methods_of_the_list_are_called(self):
        own = {node.name for _, node in self.nodes(ast.FunctionDef)}
        for name, node in self.nodes(ast.Call):
            if isinstance(node.func, ast.Attribute):
                self.assertIn(node.func.attr, METHODS | own, (name, node.lineno))

    def test_is_stands_with_none_true_and_false(self):
        for name, node in self.nodes(ast.Compare):
            for sign, other in zip(node.ops, node.comparators):
                if isinstance(sign, (ast.Is, ast.IsNot)):
                    self.assertIn(getattr(other, "value", 0), (None, True, False), (name, node.lineno))

    def test_only_own_errors_are_caught_and_raised(self):
        own = self.defined("errors.py")
        for name, node in self.nodes(ast.ExceptHandler):
            self.assertIn(node.type.id, own, (name, node.lineno))
        for name, node in self.nodes(ast.Raise):
            if node.exc:
                self.assertIn(node.exc.func.id, own | {"TypeError"}, (name, node.lineno))

    def test_signs_in_strings(self):
        for name, text in self.texts.items():
            self.assertEqual(text.count("\\"), text.count("\\n"), name)

    def test_double_underscore_methods(self):
        for name, node in self.nodes(ast.FunctionDef):
            if node.name.startswith("__"):
                self.assertIn(node.name, DOUBLE, name)
            if node.name == "__exit__":
                self.assertEqual([part.arg for part in node.args.args[1:]], ["kind", "value", "trace"])
                for row in node.body:
                    self.assertIsInstance(row, ast.Assign, name)
                    self.assertIsInstance(row.targets[0], ast.Attribute, name)
                    self.assertIsInstance(row.value, ast.Attribute, name)
            if node.name in ("__eq__", "__len__"):
                self.assertEqual([kind for kind in map(type, node.body) if kind is not ast.Expr], [ast.Return], name)
            if node.name == "__len__":
                self.assertEqual(node.body[-1].value.func.id, "len", name)

    def test_beside_an_own_eq_nothing_is_sorted_in_place_or_told_by_a_generator(self):
        self.assertEqual(self.nodes((ast.GeneratorExp, ast.Yield, ast.YieldFrom)), [])
        for name, node in self.nodes(ast.Attribute):
            self.assertNotEqual(node.attr, "sort", (name, node.lineno))

    def test_attributes_are_assigned_by_a_class_and_are_no_methods(self):
        assigned = {node.attr for _, node in self.nodes(ast.Attribute) if isinstance(node.ctx, ast.Store)}
        own = {part.name for _, node in self.nodes(ast.ClassDef) for part in node.body
               if isinstance(part, ast.FunctionDef)}
        self.assertEqual(assigned & own, set())
        self.assertEqual(assigned & BARRED_ATTRIBUTES, set())
        for name, node in self.nodes(ast.Attribute):
            self.assertIn(node.attr, assigned | own | METHODS, (name, node.lineno))

    def test_properties_only_return(self):
        for name, node in self.nodes(ast.FunctionDef):
            if node.decorator_list:
                self.assertEqual([sign.id for sign in node.decorator_list], ["property"], name)
                self.assertEqual([type(row) for row in node.body], [ast.Expr, ast.Return], name)

    def test_sets_are_not_iterated_and_exponents_are_written_out(self):
        for name, node in self.nodes((ast.For, ast.comprehension)):
            self.assertNotIsInstance(node.iter, (ast.Set, ast.SetComp), name)
            self.assertNotIn(getattr(getattr(node.iter, "func", None), "id", ""), ("set", "frozenset"), name)
        for name, node in self.nodes(ast.BinOp):
            if isinstance(node.op, ast.Pow):
                self.assertIsInstance(node.right, ast.Constant, (name, node.lineno))

    def test_lists_and_dicts_of_a_file_are_only_read(self):
        for name, tree in self.trees.items():
            kept = {node.targets[0].id for node in tree.body
                    if isinstance(node, ast.Assign) and isinstance(node.value, (ast.Dict, ast.List))}
            for node in ast.walk(tree):
                if isinstance(node, ast.Call):
                    passed = {part.id for part in node.args if isinstance(part, ast.Name)}
                    self.assertEqual(passed & kept, set(), (name, node.lineno))


if __name__ == "__main__":
    unittest.main()
