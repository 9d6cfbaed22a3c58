"""The rules of LANGUAGE.md that can be seen row by row. Not all of them: the others are kept by reading."""

import ast
import builtins
import pathlib
import re
import unittest
import warnings

FOLDER = pathlib.Path(__file__).resolve().parent.parent / "slipwire"

BUILTINS = """len range enumerate zip min max sum abs sorted reversed int str bool list tuple dict set frozenset
isinstance ord repr any all divmod iter next Exception ValueError TypeError KeyError IndexError LookupError
ZeroDivisionError ArithmeticError OverflowError RuntimeError NotImplementedError AttributeError StopIteration
NotImplemented property staticmethod classmethod super object bytes""".split()
BARRED_WORDS = """type typing typing_extensions enum Enum IntEnum StrEnum Flag IntFlag Generic Protocol ABC ABCMeta
namedtuple NamedTuple TypedDict TYPE_CHECKING abstractmethod""".split()
BARRED_ANYWHERE = ["dataclass", "overload", "contextmanager"]
METHODS = """append clear copy count endswith extend find get index insert isalnum isalpha isdigit islower isspace
isupper items join keys ljust lower lstrip partition pop remove replace reverse rfind rjust rpartition rsplit rstrip
setdefault split splitlines startswith strip update upper values zfill bit_length""".split()
DUNDERS = "__init__ __eq__ __repr__ __str__ __len__".split()
STATEMENTS = (ast.Global, ast.AsyncFunctionDef, ast.AsyncFor, ast.AsyncWith, ast.Await, ast.Import)


def files():
    return sorted(path for path in FOLDER.iterdir() if path.name != "__pycache__")


def trees():
    return [(path, ast.parse(path.read_text("utf-8"))) for path in files()]


def nodes(kind):
    return [(path, node) for path, tree in trees() for node in ast.walk(tree) if isinstance(node, kind)]


def imported(tree):
    return [node.module for node in ast.walk(tree) if isinstance(node, ast.ImportFrom)]


def methods():
    return [body.name for _, node in nodes(ast.ClassDef) for body in node.body if isinstance(body, ast.FunctionDef)]


def stored():
    return [node.attr for _, node in nodes(ast.Attribute) if isinstance(node.ctx, ast.Store)]


class Files(unittest.TestCase):
    def test_l1_l14_plain_names(self):
        self.assertIn("__init__.py", [path.name for path in files()])
        for path in files():
            self.assertTrue(path.is_file() and re.fullmatch(r"[a-z][a-z0-9_]*\.py|__init__\.py", path.name), path)

    def test_l10_sizes(self):
        for path in files():
            rows = path.read_text("utf-8").split("\n")
            self.assertLessEqual(len(rows), 400, path)
            for row in rows:
                self.assertLessEqual(len(row), 120, (path, row))
        for path, node in nodes(ast.FunctionDef):
            self.assertLessEqual(node.end_lineno - node.lineno + 1, 40, (path, node.name))

    def test_l14_characters(self):
        for path in files():
            self.assertTrue(re.fullmatch(r"[ -~\n]*", path.read_text("utf-8")), path)

    def test_l17_words(self):
        for path in files():
            text = path.read_text("utf-8")
            words = re.findall(r"\w+", text)
            for barred in BARRED_WORDS:
                self.assertNotIn(barred, words, path)
            for barred in BARRED_ANYWHERE:
                self.assertNotIn(barred, text, path)

    def test_l27_no_warnings(self):
        for path in files():
            with warnings.catch_warnings():
                warnings.simplefilter("error")
                compile(path.read_text("utf-8"), str(path), "exec")


class Imports(unittest.TestCase):
    def test_l2_only_from_the_package_by_full_names(self):
        for path, node in nodes(ast.ImportFrom):
            self.assertEqual(node.level, 0, path)
            self.assertTrue((FOLDER.parent / (node.module.replace(".", "/") + ".py")).is_file(), (path, node.module))
            self.assertNotIn("*", [name.name for name in node.names], path)

    def test_l16_no_two_files_import_from_each_other(self):
        left = {"slipwire." + path.stem: imported(tree) for path, tree in trees()}
        while left:
            free = [name for name, wanted in left.items() if not set(wanted) & set(left)]
            self.assertTrue(free, left)
            for name in free:
                del left[name]


class Code(unittest.TestCase):
    def test_l6_statements(self):
        self.assertEqual(nodes(STATEMENTS), [])

    def test_l7_no_float_and_no_slash(self):
        self.assertEqual(nodes(ast.Div), [])
        for path, node in nodes(ast.Constant):
            self.assertNotIsInstance(node.value, (float, complex), path)

    def test_l8_builtins(self):
        for path, node in nodes(ast.Name):
            if hasattr(builtins, node.id):
                self.assertIn(node.id, BUILTINS, path)
                self.assertIsInstance(node.ctx, ast.Load, path)

    def test_l12_names(self):
        for path, node in nodes((ast.Name, ast.arg, ast.Attribute, ast.FunctionDef, ast.ClassDef)):
            name = getattr(node, "id", None) or getattr(node, "arg", None) or getattr(node, "attr", None) or node.name
            self.assertTrue(re.fullmatch(r"[A-Za-z]\w*|__[a-z]+__", name), (path, name))

    def test_l15_no_argument_has_the_name_of_a_builtin(self):
        for path, node in nodes(ast.arg):
            self.assertFalse(hasattr(builtins, node.arg), (path, node.arg))

    def test_l20_is(self):
        for path, node in nodes(ast.Compare):
            for sign, right in zip(node.ops, node.comparators):
                if isinstance(sign, (ast.Is, ast.IsNot)):
                    self.assertIn(ast.dump(right), [ast.dump(ast.Constant(one)) for one in (None, True, False)], path)

    def test_l3_module_level(self):
        for path, tree in trees():
            above = []
            for node in tree.body:
                self.assertIsInstance(node, (ast.Expr, ast.ImportFrom, ast.Assign, ast.FunctionDef, ast.ClassDef), path)
                if isinstance(node, ast.FunctionDef):
                    above.append(node.name)
                if isinstance(node, ast.Assign):
                    self.assert_plain(node.value, above, path)

    def assert_plain(self, value, above, path):
        """A plain value, or a table of functions that are defined above in the same file."""
        if isinstance(value, ast.Dict) and any(isinstance(one, ast.Name) for one in value.values):
            for key, one in zip(value.keys, value.values):
                ast.literal_eval(key)
                self.assertIn(getattr(one, "id", None), above, path)
        else:
            ast.literal_eval(value)

    def test_l7_l24_sums_take_lists_and_no_set_is_stored(self):
        self.assertEqual(nodes((ast.GeneratorExp, ast.Set, ast.SetComp)), [])

    def test_l15_one_binding_for_each_name(self):
        for path, tree in trees():
            bound = [name.name for node in tree.body if isinstance(node, ast.ImportFrom) for name in node.names]
            bound += [node.name for node in tree.body if isinstance(node, (ast.FunctionDef, ast.ClassDef))]
            bound += [one.id for node in tree.body if isinstance(node, ast.Assign) for one in node.targets]
            self.assertEqual(len(bound), len(set(bound)), path)
            for node in ast.walk(tree):
                if isinstance(node, ast.FunctionDef):
                    held = [arg.arg for arg in node.args.args + node.args.kwonlyargs]
                    held += [one.id for one in ast.walk(node) if isinstance(one, ast.Name)
                             and isinstance(one.ctx, ast.Store)]
                    self.assertEqual(sorted(set(held) & set(bound)), [], (path, node.name))

    def test_l18_no_name_is_a_method_and_an_attribute(self):
        self.assertEqual(sorted(set(methods()) & set(stored())), [])

    def test_l18_l25_l26_methods_and_attributes(self):
        called = [node.func.attr for _, node in nodes(ast.Call) if isinstance(node.func, ast.Attribute)]
        self.assertEqual(sorted(set(called) - set(METHODS) - set(methods()) - {"__init__"}), [])
        read = [node.attr for _, node in nodes(ast.Attribute) if isinstance(node.ctx, ast.Load)]
        self.assertEqual(sorted(set(read) - set(called) - set(stored())), [])
        for name in methods() + stored():
            for kind in (str, int, list, tuple, dict, set, bytes):
                self.assertTrue(name in DUNDERS or not hasattr(kind, name), name)

    def test_l19_handlers_name_own_errors(self):
        for path, node in nodes(ast.ExceptHandler):
            self.assertIn(node.type.id, [name.name for _, name in nodes(ast.ClassDef)], path)

    def test_l27_strings(self):
        for path, node in nodes(ast.Constant):
            if isinstance(node.value, str):
                self.assertNotIn(chr(37), node.value, path)

    def test_l28_double_underscore_methods(self):
        for path, node in nodes(ast.FunctionDef):
            if not node.name.startswith("__"):
                continue
            self.assertIn(node.name, DUNDERS, path)
            returns = [one.value for one in ast.walk(node) if isinstance(one, ast.Return)]
            if node.name == "__init__":
                self.assertEqual(returns, [], path)
            elif node.name != "__eq__":
                self.assertIsInstance(node.body[-1], ast.Return, path)
            if node.name == "__len__":
                self.assertEqual([one.func.id for one in returns], ["len"], path)


if __name__ == "__main__":
    unittest.main()
