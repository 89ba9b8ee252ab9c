"""The package's files keep to the part of the language that they are written in.

Only the rules that a plain look at the files can tell; each test is called by the rule's number.
"""

import ast
import builtins
import pathlib
import re
import unittest

PACKAGE = pathlib.Path(__file__).resolve().parent.parent / "squarecall"

STATEMENTS = (
    ast.FunctionDef, ast.ClassDef, ast.ImportFrom, ast.Assign, ast.AugAssign, ast.AnnAssign, ast.If, ast.While,
    ast.For, ast.Return, ast.Break, ast.Continue, ast.Pass, ast.Raise, ast.Try, ast.Expr,
)
OUTSIDE = (
    ast.Div, ast.SetComp, ast.DictComp, ast.GeneratorExp, ast.NamedExpr, ast.Starred, ast.Await, ast.Yield,
    ast.YieldFrom,
)
OWN_NAMES = (
    "len range enumerate zip min max sum abs sorted reversed int str bool list tuple dict set frozenset isinstance "
    "ord repr any all divmod Exception ValueError TypeError KeyError IndexError LookupError ZeroDivisionError "
    "ArithmeticError OverflowError RuntimeError NotImplementedError AttributeError StopIteration object"
).split()
WORDS = (
    "type typing typing_extensions enum Enum IntEnum StrEnum Flag IntFlag Generic Protocol ABC ABCMeta namedtuple "
    "NamedTuple TypedDict TYPE_CHECKING abstractmethod"
).split()
VALUE_METHODS = (
    "append clear copy count endswith extend find get index insert isalnum isalpha isdigit islower isspace isupper "
    "items join keys ljust lower lstrip partition pop remove replace reverse rfind rjust rpartition rsplit rstrip "
    "setdefault split splitlines startswith strip update upper values zfill bit_length"
).split()
METHODS = ("__init__", "__eq__", "__repr__", "__str__", "__len__")


def files():
    return sorted(path for path in PACKAGE.rglob("*") if "__pycache__" not in path.parts)


def nodes():
    for path in files():
        for node in ast.walk(ast.parse(path.read_text(encoding="utf-8"))):
            yield f"{path.name}:{getattr(node, 'lineno', 0)}", node


class Language(unittest.TestCase):
    def test_l1_files(self):
        self.assertIn(PACKAGE / "__init__.py", files())
        for path in files():
            self.assertRegex(path.name, r"\A[a-z0-9_]+(\.py)?\Z")
            self.assertTrue(path.is_dir() or path.suffix == ".py", path)

    def test_l2_l16_imports(self):
        for place, node in nodes():
            self.assertNotIsInstance(node, ast.Import, place)
            if isinstance(node, ast.ImportFrom):
                self.assertEqual(node.level, 0, place)
                self.assertRegex(node.module, r"\Asquarecall\.[a-z]+\Z", place)
                self.assertNotIn("*", [alias.name for alias in node.names], place)

    def test_l16_from_the_file_that_defines_the_name_and_not_in_a_ring(self):
        defined, drawn = {}, {}
        for path in files():
            tree = ast.parse(path.read_text(encoding="utf-8"))
            defined[path.stem] = [node.name for node in tree.body if isinstance(node, (ast.FunctionDef, ast.ClassDef))]
            defined[path.stem] += [node.targets[0].id for node in tree.body if isinstance(node, ast.Assign)]
            drawn[path.stem] = [(node.module.split(".")[1], alias.name) for node in tree.body
                                if isinstance(node, ast.ImportFrom) for alias in node.names]
        for stem, names in drawn.items():
            for module, name in names:
                self.assertIn(name, defined[module], f"{stem}.py")
        # A file may be struck out once all that it draws from are; a ring would stay.
        left = dict(drawn)
        while left:
            free = [stem for stem in left if not any(module in left for module, name in left[stem])]
            self.assertNotEqual(free, [], sorted(left))
            for stem in free:
                del left[stem]

    def test_l4_functions(self):
        for place, node in nodes():
            if isinstance(node, ast.arguments):
                self.assertFalse(node.vararg or node.kwarg or node.kwonlyargs or node.posonlyargs, place)
            if isinstance(node, (ast.FunctionDef, ast.ClassDef)):
                self.assertEqual(node.decorator_list, [], place)

    def test_l5_classes(self):
        for place, node in nodes():
            if isinstance(node, ast.ClassDef):
                self.assertLessEqual(len(node.bases), 1, place)
                for part in node.body:
                    self.assertIsInstance(part, (ast.FunctionDef, ast.Pass), place)

    def test_l6_statements(self):
        for place, node in nodes():
            if isinstance(node, ast.stmt):
                self.assertIsInstance(node, STATEMENTS, place)
            if isinstance(node, (ast.For, ast.While)):
                self.assertEqual(node.orelse, [], place)
            if isinstance(node, ast.Try):
                self.assertEqual(node.finalbody, [], place)
            if isinstance(node, ast.Assign):
                self.assertEqual(len(node.targets), 1, place)
                self.assertNotIsInstance(node.targets[0], (ast.Tuple, ast.List), place)
            if isinstance(node, (ast.FunctionDef, ast.ClassDef)):
                for part in node.body:
                    if isinstance(part, ast.Expr):
                        self.assertIsInstance(part.value, ast.Call, place)

    def test_l7_expressions(self):
        for place, node in nodes():
            self.assertNotIsInstance(node, OUTSIDE, place)
            if isinstance(node, ast.Constant):
                self.assertNotIsInstance(node.value, (float, complex, bytes), place)
            if isinstance(node, ast.FormattedValue):
                self.assertIsInstance(node.value, ast.Name, place)
                self.assertIsNone(node.format_spec, place)
                self.assertIn(node.conversion, (-1, ord("r")), place)
            if isinstance(node, ast.ListComp):
                self.assertEqual(len(node.generators), 1, place)
                self.assertLessEqual(len(node.generators[0].ifs), 1, place)

    def test_l8_l12_names(self):
        for place, node in nodes():
            if isinstance(node, ast.Name):
                self.assertTrue(node.id in OWN_NAMES or not hasattr(builtins, node.id), f"{place} {node.id}")
                self.assertFalse(node.id.startswith("_"), f"{place} {node.id}")
            if isinstance(node, ast.arg):
                self.assertFalse(hasattr(builtins, node.arg), f"{place} {node.arg}")
            if isinstance(node, ast.FunctionDef):
                self.assertTrue(node.name in METHODS or not node.name.startswith("_"), f"{place} {node.name}")

    def test_l10_sizes(self):
        for path in files():
            rows = path.read_text(encoding="utf-8").split("\n")
            self.assertLessEqual(len(rows), 400, path)
            for number, row in enumerate(rows, start=1):
                self.assertLessEqual(len(row), 120, f"{path.name}:{number}")
        for place, node in nodes():
            if isinstance(node, ast.FunctionDef):
                self.assertLessEqual(node.end_lineno - node.lineno + 1, 40, place)

    def test_l14_signs(self):
        for path in files():
            self.assertRegex(path.read_bytes(), rb"\A[ -~\n]*\Z", path)

    def test_l15_names_once(self):
        for path in files():
            tree = ast.parse(path.read_text(encoding="utf-8"))
            bound = [node.name for node in tree.body if isinstance(node, (ast.FunctionDef, ast.ClassDef))]
            bound += [target.id for node in tree.body if isinstance(node, ast.Assign) for target in node.targets]
            bound += [alias.asname or alias.name for node in tree.body if isinstance(node, ast.ImportFrom)
                      for alias in node.names]
            self.assertEqual(len(bound), len(set(bound)), path.name)
            for part in tree.body:
                for node in ast.walk(part):
                    if isinstance(part, (ast.FunctionDef, ast.ClassDef)) and isinstance(node, ast.arg):
                        self.assertNotIn(node.arg, bound, f"{path.name}:{node.lineno}")
                    if isinstance(part, (ast.FunctionDef, ast.ClassDef)) and isinstance(node, ast.Name):
                        if isinstance(node.ctx, ast.Store):
                            self.assertNotIn(node.id, bound, f"{path.name}:{node.lineno}")

    def test_l18_no_name_is_a_method_and_a_value(self):
        methods = [part.name for place, node in nodes() if isinstance(node, ast.ClassDef) for part in node.body
                   if isinstance(part, ast.FunctionDef)]
        for place, node in nodes():
            if isinstance(node, ast.Attribute) and isinstance(node.ctx, ast.Store):
                self.assertNotIn(node.attr, methods, place)

    def test_l19_errors(self):
        for place, node in nodes():
            if isinstance(node, ast.ExceptHandler):
                self.assertIsNotNone(node.type, place)
                for part in ast.walk(node.type):
                    if isinstance(part, ast.Name):
                        self.assertNotIn(part.id, ("Exception", "TypeError"), place)
            if isinstance(node, ast.Raise):
                self.assertIsInstance(node.exc, ast.Call, place)

    def test_l20_is(self):
        for place, node in nodes():
            if isinstance(node, ast.Compare) and isinstance(node.ops[0], (ast.Is, ast.IsNot)):
                self.assertIsInstance(node.comparators[0], ast.Constant, place)
                self.assertIn(node.comparators[0].value, (None, True, False), place)

    def test_l25_methods(self):
        own = [node.name for place, node in nodes() if isinstance(node, ast.FunctionDef)]
        for place, node in nodes():
            if isinstance(node, ast.Call) and isinstance(node.func, ast.Attribute):
                self.assertIn(node.func.attr, VALUE_METHODS + own, place)

    def test_l26_values(self):
        taken = {name for kind in (str, int, list, dict, set, bytes, tuple) for name in dir(kind)}
        for place, node in nodes():
            if isinstance(node, ast.Attribute) and isinstance(node.ctx, ast.Store):
                self.assertNotIn(node.attr, taken, place)
            if isinstance(node, ast.ClassDef):
                for part in node.body:
                    if isinstance(part, ast.FunctionDef) and part.name != "__init__":
                        self.assertNotIn(part.name, taken, place)

    def test_l27_numbers_and_texts(self):
        for place, node in nodes():
            self.assertNotIsInstance(node, ast.Pow, place)
            if isinstance(node, ast.Constant) and isinstance(node.value, str):
                self.assertNotIn("%", node.value, place)

    def test_l28_no_method_with_two_underscores_but_the_making(self):
        for place, node in nodes():
            if isinstance(node, ast.FunctionDef) and node.name.startswith("__"):
                self.assertEqual(node.name, "__init__", place)
                self.assertEqual([part for part in ast.walk(node) if isinstance(part, ast.Return)], [], place)

    def test_l17_words(self):
        for path in files():
            text = path.read_text(encoding="utf-8")
            for word in WORDS:
                self.assertIsNone(re.search(rf"\b{word}\b", text), f"{path.name}: {word}")


if __name__ == "__main__":
    unittest.main()
