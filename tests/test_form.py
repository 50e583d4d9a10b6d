"""The form of the package's own files: what LANGUAGE.md tells, as far as it is seen from the written rows."""

import ast
import builtins
import pathlib
import re
import unittest

PACKAGE = pathlib.Path(__file__).resolve().parent.parent / "fewthings"
FILES = sorted(PACKAGE.glob("*.py"))

LET_NAMES = """len range enumerate zip min max sum abs sorted reversed int str bool bytes list tuple dict set frozenset
isinstance ord repr any all divmod Exception ValueError TypeError KeyError IndexError LookupError ZeroDivisionError
ArithmeticError OverflowError RuntimeError NotImplementedError AttributeError StopIteration""".split()
LET_METHODS = "__init__ __eq__ __repr__ __str__ __len__".split()
WORDS_OUT = re.compile(
    r"\b(type|typing|typing_extensions|enum|Enum|IntEnum|StrEnum|Flag|IntFlag|Generic|Protocol|ABC|ABCMeta|namedtuple"
    r"|NamedTuple|TypedDict|TYPE_CHECKING|abstractmethod)\b|dataclass|overload|contextmanager")
NAMES_OUT = """register mro elements open input version_info with_traceback add_note attrgetter breakpoint builtins compile
copyright credits delattr dir eval exec exit gc getattr globals hasattr help id importlib license locals methodcaller os
quit setattr super vars sys format format_map""".split()
METHODS_IN = """append clear copy count endswith extend find get index insert isalnum isalpha isdigit islower isspace isupper
items join keys ljust lower lstrip partition pop remove replace reverse rfind rjust rpartition rsplit rstrip setdefault
split splitlines startswith strip update upper values zfill bit_length add discard""".split()
NODES_OUT = (ast.With, ast.Match, ast.Global, ast.Nonlocal, ast.Yield, ast.YieldFrom, ast.Await, ast.AsyncFunctionDef,
             ast.GeneratorExp, ast.NamedExpr, ast.Div, ast.MatMult, ast.Import)


def bound_names(tree):
    """Each name that a file gives, a def's, a class's, a parameter's, a value's."""
    for node in ast.walk(tree):
        if isinstance(node, ast.Name) and isinstance(node.ctx, ast.Store):
            yield node.id
        elif isinstance(node, ast.Attribute) and isinstance(node.ctx, ast.Store):
            yield node.attr
        elif isinstance(node, (ast.FunctionDef, ast.ClassDef)):
            yield node.name
        elif isinstance(node, ast.arg):
            yield node.arg


class Form(unittest.TestCase):
    def each_node(self, *sorts):
        """Each node of these sorts, and where it stands."""
        for file in FILES:
            for node in ast.walk(ast.parse(file.read_text("utf-8"))):
                if isinstance(node, sorts):
                    yield node, f"{file.name}, row {getattr(node, 'lineno', 'unknown')}"

    def test_the_package_holds_plain_files_alone(self):
        self.assertIn("__init__.py", [file.name for file in FILES])
        for path in PACKAGE.iterdir():
            if path.name != "__pycache__":
                self.assertRegex(path.name, r"\A([a-z][a-z0-9_]*|__init__|__main__)\.py\Z")

    def test_sizes_and_signs(self):
        for file in FILES:
            text = file.read_text("utf-8")
            rows = text.split("\n")
            self.assertLessEqual(len(rows), 401, file.name)
            for number, row in enumerate(rows, 1):
                with self.subTest(file=file.name, row=number):
                    self.assertLessEqual(len(row), 120)
                    self.assertRegex(row, r"\A[ -~]*\Z")
                    self.assertIsNone(WORDS_OUT.search(row))

    def test_lengths_of_functions(self):
        for node, where in self.each_node(ast.FunctionDef):
            self.assertLessEqual(node.end_lineno - node.lineno + 1, 40, where)

    def test_imports(self):
        for node, where in self.each_node(ast.ImportFrom):
            self.assertEqual(node.level, 0, where)
            self.assertRegex(node.module, r"\Afewthings\.[a-z]+\Z", where)
            defined = (PACKAGE / (node.module.split(".")[1] + ".py")).read_text("utf-8")
            names = list(bound_names(ast.parse(defined)))
            for drawn in node.names:
                self.assertIn(drawn.name, names, where)

    def test_forms_that_are_out(self):
        for node, where in self.each_node(*NODES_OUT):
            self.fail(where)
        for node, where in self.each_node(ast.For, ast.While):
            self.assertEqual(node.orelse, [], where)
        for node, where in self.each_node(ast.Constant):
            self.assertNotIsInstance(node.value, (float, complex), where)
            self.assertNotIn("%", node.value if isinstance(node.value, str) else "", where)
        for node, where in self.each_node(ast.FunctionDef, ast.ClassDef):
            self.assertEqual(node.decorator_list, [], where)
        for node, where in self.each_node(ast.arguments):
            self.assertEqual((node.vararg, node.kwarg, node.posonlyargs), (None, None, []), where)

    def test_names(self):
        for file in FILES:
            for name in bound_names(ast.parse(file.read_text("utf-8"))):
                with self.subTest(file=file.name, name=name):
                    if name not in LET_METHODS:
                        self.assertRegex(name, r"\A[A-Za-z][A-Za-z0-9_]*\Z")

    def test_names_of_pythons_own(self):
        for node, where in self.each_node(ast.Name):
            if hasattr(builtins, node.id):
                self.assertIn(node.id, LET_NAMES, where)
                self.assertIsInstance(node.ctx, ast.Load, where)
        for node, where in self.each_node(ast.arg):
            self.assertFalse(hasattr(builtins, node.arg), where)

    def test_a_name_is_no_method_and_value_both(self):
        methods, values = set(), set()
        for node, where in self.each_node(ast.ClassDef):
            methods.update([part.name for part in node.body if isinstance(part, ast.FunctionDef)])
        for node, where in self.each_node(ast.Attribute):
            if isinstance(node.ctx, ast.Store):
                values.add(node.attr)
        self.assertEqual(methods & values, set())

    def test_no_local_is_called_like_a_class_or_an_import_of_its_file(self):
        for file in FILES:
            tree = ast.parse(file.read_text("utf-8"))
            taken = [node.name for node in tree.body if isinstance(node, ast.ClassDef)]
            for node in tree.body:
                if isinstance(node, ast.ImportFrom):
                    taken.extend([drawn.asname or drawn.name for drawn in node.names])
            for node in ast.walk(tree):
                if isinstance(node, ast.arg):
                    self.assertNotIn(node.arg, taken, file.name)
                elif isinstance(node, ast.Name) and isinstance(node.ctx, ast.Store):
                    self.assertNotIn(node.id, taken, file.name)

    def test_no_two_files_draw_from_one_another(self):
        drawn = {}
        for file in FILES:
            rows = [node for node in ast.parse(file.read_text("utf-8")).body if isinstance(node, ast.ImportFrom)]
            drawn[file.stem] = {row.module.split(".")[1] for row in rows}
        while drawn:
            free = [name for name in drawn if not drawn[name] & set(drawn)]
            self.assertTrue(free, drawn)
            for name in free:
                drawn.pop(name)

    def test_names_that_are_not_used(self):
        for file in FILES:
            for name in bound_names(ast.parse(file.read_text("utf-8"))):
                self.assertNotIn(name, NAMES_OUT, file.name)

    def test_methods_and_values_are_known_ones(self):
        own = list(METHODS_IN)
        for node, where in self.each_node(ast.ClassDef):
            own.extend([part.name for part in node.body if isinstance(part, ast.FunctionDef)])
        for node, where in self.each_node(ast.Attribute):
            if isinstance(node.ctx, ast.Store):
                own.append(node.attr)
        for node, where in self.each_node(ast.Attribute):
            self.assertIn(node.attr, own, where)

    def test_errors_that_are_taken(self):
        for node, where in self.each_node(ast.ExceptHandler):
            self.assertIsNotNone(node.type, where)
            for taken in (node.type.elts if isinstance(node.type, ast.Tuple) else [node.type]):
                self.assertNotIn(taken.id, ("Exception", "TypeError", "BaseException"), where)

    def test_nothing_starred_is_handed_in(self):
        for node, where in self.each_node(ast.Starred):
            self.assertIsInstance(node.ctx, ast.Store, where)

    def test_what_can_only_be_walked_is_not_kept(self):
        for node, where in self.each_node(ast.Assign, ast.Return):
            called = node.value.func if isinstance(node.value, ast.Call) else None
            self.assertNotIn(getattr(called, "id", ""), ("zip", "enumerate", "reversed", "range", "set"), where)
            self.assertNotIn(getattr(called, "attr", ""), ("items", "keys", "values"), where)

    def test_is_stands_beside_none_true_and_false(self):
        for node, where in self.each_node(ast.Compare):
            for sign, right in zip(node.ops, node.comparators):
                if isinstance(sign, (ast.Is, ast.IsNot)):
                    self.assertIsInstance(right, ast.Constant, where)
                    self.assertIn(repr(right.value), ("None", "True", "False"), where)


if __name__ == "__main__":
    unittest.main()
