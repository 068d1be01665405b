"""The rules of the language that can be seen in the text of the package's files."""

import ast
import builtins
import pathlib
import re
import unittest

PACKAGE = pathlib.Path(__file__).resolve().parent.parent / "betstall"
FILES = sorted(PACKAGE.glob("*.py"))

BUILTINS = set("""len range enumerate zip min max sum abs sorted reversed int str bool bytes list tuple dict set
    frozenset isinstance ord repr any all divmod iter next Exception ValueError TypeError KeyError IndexError
    LookupError ZeroDivisionError ArithmeticError OverflowError RuntimeError NotImplementedError AttributeError
    StopIteration NotImplemented""".split())
METHODS = set("""append clear copy count endswith extend find get index insert isalnum isalpha isdigit islower isspace
    isupper items join keys ljust lower lstrip partition pop remove replace reverse rfind rjust rpartition rsplit
    rstrip setdefault split splitlines startswith strip update upper values zfill bit_length sort""".split())
BARRED_WORDS = """type typing typing_extensions enum Enum IntEnum StrEnum Flag IntFlag Generic Protocol ABC ABCMeta
    namedtuple NamedTuple TypedDict TYPE_CHECKING abstractmethod""".split()
BARRED_PARTS = ("dataclass", "overload", "contextmanager")
BARRED_NAMES = set("""register mro elements open input version_info with_traceback add_note attrgetter breakpoint
    builtins compile copyright credits delattr dir eval exec exit gc getattr globals hasattr help id importlib license
    locals methodcaller os quit setattr super type vars sys""".split())
STATEMENTS = (ast.Assign, ast.AugAssign, ast.If, ast.While, ast.For, ast.Return, ast.Break, ast.Continue, ast.Pass,
              ast.Raise, ast.Assert, ast.Delete, ast.Try, ast.Expr, ast.FunctionDef, ast.ClassDef, ast.ImportFrom)
WITHOUT = (ast.Lambda, ast.Set, ast.SetComp, ast.NamedExpr, ast.Await, ast.Div, ast.Global, ast.AsyncFor,
           ast.AsyncFunctionDef, ast.Starred, ast.Yield, ast.YieldFrom)
SPECIAL = ("__init__", "__len__", "__eq__")
BARRED_ATTRIBUTES = set("""items keys values pop update append clear extend insert remove reverse setdefault sort args
    encode decode hex fromhex format as_integer_ratio bit_count conjugate from_bytes is_integer to_bytes""".split())
LISTED = ("any", "all", "min", "max", "sum", "sorted")


def read(path):
    return path.read_bytes().decode("utf-8")


def trees():
    return [(path, ast.parse(read(path))) for path in FILES]


def nodes():
    return [(path, node) for path, tree in trees() for node in ast.walk(tree)]


def imported(tree):
    return [node for node in tree.body if isinstance(node, ast.ImportFrom)]


def own_methods():
    classes = [node for path, node in nodes() if isinstance(node, ast.ClassDef)]
    return {node.name for one in classes for node in one.body if isinstance(node, ast.FunctionDef)}


def own_attributes():
    return {node.attr for path, node in nodes() if isinstance(node, ast.Attribute) and isinstance(node.ctx, ast.Store)}


def assigned(function):
    names = [arg.arg for arg in function.args.args]
    names += [node.id for node in ast.walk(function) if isinstance(node, ast.Name) and isinstance(node.ctx, ast.Store)]
    return names


class TestText(unittest.TestCase):

    def test_the_folder_holds_plain_files_alone(self):
        self.assertGreater(len(FILES), 5)
        for path in PACKAGE.iterdir():
            if path.name != "__pycache__":
                self.assertRegex(path.name, r"^([a-z][a-z0-9_]*|__init__)\.py$")

    def test_sizes_and_signs(self):
        for path in FILES:
            text = read(path)
            self.assertIsNone(re.search(r"[^ -~\n]", text), path.name)
            self.assertLessEqual(len(text.splitlines()), 400, path.name)
            self.assertLessEqual(max(map(len, text.splitlines())), 120, path.name)

    def test_functions_are_short(self):
        for path, node in nodes():
            if isinstance(node, ast.FunctionDef):
                self.assertLessEqual(node.end_lineno - node.lineno + 1, 40, node.name)

    def test_barred_words(self):
        for path in FILES:
            text = read(path)
            for word in BARRED_WORDS:
                self.assertIsNone(re.search(r"\b" + word + r"\b", text), (path.name, word))
            for part in BARRED_PARTS:
                self.assertNotIn(part, text)

    def test_strings_and_numbers(self):
        for path, node in nodes():
            if isinstance(node, ast.Constant):
                self.assertNotIsInstance(node.value, (float, complex, bytes))
                if isinstance(node.value, str):
                    self.assertNotIn(chr(37), node.value)


class TestForm(unittest.TestCase):

    def test_module_level(self):
        for path, tree in trees():
            for at, node in enumerate(tree.body):
                docstring = at == 0 and isinstance(node, ast.Expr) and isinstance(node.value, ast.Constant)
                plain = isinstance(node, (ast.ImportFrom, ast.FunctionDef, ast.ClassDef, ast.Assign))
                self.assertTrue(docstring or plain, (path.name, node.lineno))

    def test_imports(self):
        for path, tree in trees():
            for node in imported(tree):
                self.assertEqual(node.level, 0)
                self.assertRegex(node.module, r"^betstall\.[a-z]+$")
                there = ast.parse(read(PACKAGE / (node.module.split(".")[1] + ".py")))
                defined = [one.name for one in there.body if isinstance(one, (ast.FunctionDef, ast.ClassDef))]
                defined += [one.targets[0].id for one in there.body if isinstance(one, ast.Assign)]
                for name in node.names:
                    self.assertIn(name.name, defined)
                    self.assertIsNone(name.asname)

    def test_no_circle_of_imports(self):
        wants = {"betstall." + path.stem: {node.module for node in imported(tree)} for path, tree in trees()}
        while wants:
            free = [name for name in wants if not wants[name] & set(wants)]
            self.assertTrue(free, wants)
            for name in free:
                del wants[name]

    def test_statements_and_expressions(self):
        for path, node in nodes():
            place = (path.name, getattr(node, "lineno", 0))
            if isinstance(node, ast.stmt):
                self.assertIsInstance(node, STATEMENTS, place)
            self.assertNotIsInstance(node, WITHOUT, place)
            if isinstance(node, ast.Compare):
                for sign, other in zip(node.ops, node.comparators):
                    if isinstance(sign, (ast.Is, ast.IsNot)):
                        self.assertIsInstance(other, ast.Constant, place)

    def test_any_and_all_take_lists(self):
        for path, node in nodes():
            if isinstance(node, ast.Call) and isinstance(node.func, ast.Name) and node.func.id in LISTED:
                for arg in node.args:
                    self.assertNotIsInstance(arg, ast.GeneratorExp, (path.name, node.lineno))

    def test_zip_and_the_like_are_not_stored(self):
        for path, node in nodes():
            if isinstance(node, (ast.Assign, ast.Return)) and isinstance(node.value, ast.Call):
                called = node.value.func
                name = called.id if isinstance(called, ast.Name) else called.attr
                self.assertNotIn(name, ("zip", "enumerate", "reversed", "range", "items", "keys", "values"), path.name)

    def test_own_errors_alone_are_caught(self):
        errors = [node.name for node in ast.parse(read(PACKAGE / "errors.py")).body if isinstance(node, ast.ClassDef)]
        for path, node in nodes():
            if isinstance(node, ast.ExceptHandler):
                self.assertIsInstance(node.type, ast.Name, path.name)
                self.assertIn(node.type.id, errors, path.name)
                named = [one for one in ast.walk(node) if isinstance(one, ast.Name) and one.id == node.name]
                read_off = [one.value for one in ast.walk(node) if isinstance(one, ast.Attribute)]
                self.assertTrue(all(one in read_off for one in named), path.name)
            if isinstance(node, ast.Raise):
                self.assertIsInstance(node.exc, ast.Call, path.name)
                self.assertIn(node.exc.func.id, errors, path.name)

    def test_every_import_is_used(self):
        for path, tree in trees():
            names = [node.id for node in ast.walk(tree) if isinstance(node, ast.Name)]
            for node in imported(tree):
                for name in node.names:
                    self.assertIn(name.name, names, path.name)


class TestNames(unittest.TestCase):

    def test_plain_names(self):
        for path, node in nodes():
            if isinstance(node, ast.Name):
                self.assertFalse(node.id.startswith("_"), path.name)
            if isinstance(node, ast.FunctionDef) and node.name not in SPECIAL:
                self.assertFalse(node.name.startswith("_"), path.name)

    def test_one_meaning_for_each_name(self):
        for path, tree in trees():
            outer = [name.name for node in imported(tree) for name in node.names]
            outer += [node.name for node in tree.body if isinstance(node, (ast.FunctionDef, ast.ClassDef))]
            outer += [node.targets[0].id for node in tree.body if isinstance(node, ast.Assign)]
            self.assertEqual(len(outer), len(set(outer)), path.name)
            for function in [node for node in ast.walk(tree) if isinstance(node, ast.FunctionDef)]:
                for name in assigned(function):
                    self.assertNotIn(name, outer, (path.name, function.name))
                    self.assertNotIn(name, dir(builtins), (path.name, function.name))
                    self.assertNotIn(name, BARRED_NAMES)

    def test_builtins_and_methods(self):
        methods = own_methods()
        for path, node in nodes():
            place = (path.name, getattr(node, "lineno", 0))
            if isinstance(node, ast.Name) and node.id in dir(builtins):
                self.assertIn(node.id, BUILTINS, place)
            if isinstance(node, ast.Call) and isinstance(node.func, ast.Attribute):
                self.assertIn(node.func.attr, METHODS | methods, place)

    def test_methods_and_attributes(self):
        methods, attributes = own_methods(), own_attributes()
        self.assertEqual(methods & attributes, set())
        self.assertEqual((methods | attributes) & (METHODS | BARRED_ATTRIBUTES | BARRED_NAMES), set())
        for path, node in nodes():
            if isinstance(node, ast.Attribute):
                self.assertIn(node.attr, METHODS | methods | attributes, (path.name, node.lineno))

    def test_functions_are_plain(self):
        for path, node in nodes():
            if isinstance(node, ast.FunctionDef):
                self.assertEqual(node.decorator_list, [], path.name)
                self.assertIsNone(node.args.vararg or node.args.kwarg)
                inner = [one for one in ast.walk(node) if isinstance(one, ast.FunctionDef) and one is not node]
                self.assertEqual(inner, [], (path.name, node.name))


if __name__ == "__main__":
    unittest.main()
