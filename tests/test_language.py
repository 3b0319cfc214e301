"""The part of ../shared/LANGUAGE.md that a walk over the package's files can see."""

import ast
import builtins
import pathlib
import re
import unittest

PACKAGE = pathlib.Path(__file__).resolve().parent.parent / "jobqueue"

STATEMENTS = (
    ast.Assign, ast.AugAssign, ast.If, ast.While, ast.For, ast.Return, ast.Break, ast.Continue, ast.Pass, ast.Raise,
    ast.Try, ast.Expr, ast.FunctionDef, ast.ClassDef, ast.ImportFrom)
EXPRESSIONS = (
    ast.Constant, ast.Name, ast.List, ast.Tuple, ast.Dict, ast.BinOp, ast.UnaryOp, ast.BoolOp, ast.Compare, ast.IfExp,
    ast.Call, ast.Attribute, ast.Subscript, ast.Slice, ast.ListComp, ast.Lambda, ast.JoinedStr, ast.FormattedValue)
OWN_NAMES = """len range enumerate zip min max sum abs sorted reversed int str bool list tuple dict set frozenset
isinstance ord repr any all divmod Exception ValueError TypeError KeyError IndexError LookupError ZeroDivisionError
ArithmeticError OverflowError RuntimeError NotImplementedError StopIteration""".split()
OWN_METHODS = """append clear copy count endswith extend find get index insert isalnum isalpha isdigit islower isspace
isupper items join keys ljust lower lstrip partition pop remove replace reverse rfind rjust rpartition rsplit rstrip
setdefault split splitlines startswith strip update upper values zfill bit_length""".split()
WORDS = """type typing typing_extensions enum Enum IntEnum StrEnum Flag IntFlag Generic Protocol ABC ABCMeta namedtuple
NamedTuple TypedDict TYPE_CHECKING abstractmethod""".split()
KEYWORDS = {"sorted": {"key", "reverse"}, "min": {"key", "default"}, "max": {"key", "default"}, "sum": {"start"},
            "enumerate": {"start"}, "zip": {"strict"}}
NOT_USED = "register mro elements open input version_info with_traceback add_note format format_map".split()


def files():
    return sorted(PACKAGE.rglob("*.py"))


def trees():
    return [(file, ast.parse(file.read_text(encoding="utf-8"))) for file in files()]


def nodes(kind):
    return [(file, node) for file, tree in trees() for node in ast.walk(tree) if isinstance(node, kind)]


def drawn_from(tree):
    return [node.module for node in ast.walk(tree) if isinstance(node, ast.ImportFrom)]


class LanguageTest(unittest.TestCase):
    def test_only_plain_files_lie_in_the_package(self):
        for path in PACKAGE.rglob("*"):
            if "__pycache__" not in path.parts:
                self.assertRegex(path.name, r"^(__init__|__main__|[a-z][a-z0-9_]*)\.py$")

    def test_signs_words_and_sizes(self):
        for file in files():
            text = file.read_text(encoding="utf-8")
            self.assertRegex(text, r"^[ -~\n]*\Z", file)
            rows = text.split("\n")
            self.assertLessEqual(len(rows), 400, file)
            self.assertLessEqual(max(len(row) for row in rows), 120, file)
            self.assertEqual(set(re.findall(r"\w+", text)) & set(WORDS), set(), file)

    def test_functions_are_short_and_plain(self):
        for file, node in nodes(ast.FunctionDef):
            self.assertLessEqual(node.end_lineno - node.lineno + 1, 40, (file, node.name))
            self.assertEqual(node.decorator_list, [], (file, node.name))
            parts = node.args
            self.assertEqual((parts.vararg, parts.kwarg, parts.kwonlyargs), (None, None, []), (file, node.name))

    def test_statements_and_expressions(self):
        for file, node in nodes(ast.stmt):
            self.assertIsInstance(node, STATEMENTS, (file, node.lineno))
            if isinstance(node, ast.Assign):
                self.assertEqual(len(node.targets), 1, (file, node.lineno))
            if isinstance(node, (ast.For, ast.While)):
                self.assertEqual(node.orelse, [], (file, node.lineno))
            if isinstance(node, ast.Try):
                self.assertEqual(node.finalbody, [], (file, node.lineno))
        for file, node in nodes(ast.expr):
            self.assertIsInstance(node, EXPRESSIONS, (file, node.lineno))
            if isinstance(node, ast.Constant):
                self.assertIsInstance(node.value, (int, str, type(None)), (file, node.lineno))
        self.assertEqual(nodes((ast.Div, ast.MatMult)), [])

    def test_a_lone_expression_is_a_call_or_the_files_docstring(self):
        for file, tree in trees():
            for node in ast.walk(tree):
                if isinstance(node, ast.Expr) and node != tree.body[0]:
                    self.assertIsInstance(node.value, ast.Call, (file, node.lineno))

    def test_imports_are_of_the_package_and_run_in_no_circle(self):
        drawn = {f"jobqueue.{file.stem}": drawn_from(tree) for file, tree in trees()}
        settled = []
        while len(settled) < len(drawn):
            ready = [name for name in drawn if name not in settled and set(drawn[name]) <= set(settled)]
            self.assertNotEqual(ready, [], drawn)
            settled += ready

    def test_imported_names_are_those_their_file_defines(self):
        made = {f"jobqueue.{file.stem}": tree for file, tree in trees()}
        for file, node in nodes(ast.ImportFrom):
            body = made[node.module].body
            names = [row.name for row in body if isinstance(row, (ast.FunctionDef, ast.ClassDef))]
            names += [row.targets[0].id for row in body if isinstance(row, ast.Assign)]
            for alias in node.names:
                self.assertIn(alias.name, names, (file, node.lineno))

    def test_names(self):
        for file, node in nodes((ast.Name, ast.arg, ast.FunctionDef, ast.ClassDef)):
            name = getattr(node, "id", None) or getattr(node, "arg", None) or getattr(node, "name", None)
            if name == "__init__":
                continue
            self.assertNotEqual(name[0], "_", (file, name))
            self.assertNotIn(name, NOT_USED, file)
            self.assertTrue(name in OWN_NAMES or not hasattr(builtins, name), (file, name))
            if not isinstance(node, ast.Name) or isinstance(node.ctx, ast.Store):
                self.assertNotIn(name, OWN_NAMES, file)

    def test_no_local_is_called_like_a_class_or_an_import_of_its_file(self):
        for file, tree in trees():
            taken = [row.name for row in tree.body if isinstance(row, ast.ClassDef)]
            taken += [alias.name for row in tree.body if isinstance(row, ast.ImportFrom) for alias in row.names]
            for node in ast.walk(tree):
                if isinstance(node, ast.arg):
                    self.assertNotIn(node.arg, taken, file)
                if isinstance(node, ast.Name) and isinstance(node.ctx, ast.Store):
                    self.assertNotIn(node.id, taken, file)

    def test_names_at_a_files_top_are_bound_once(self):
        for file, tree in trees():
            names = [row.name for row in tree.body if isinstance(row, (ast.FunctionDef, ast.ClassDef))]
            names += [row.targets[0].id for row in tree.body if isinstance(row, ast.Assign)]
            names += [alias.name for row in tree.body if isinstance(row, ast.ImportFrom) for alias in row.names]
            self.assertEqual(len(names), len(set(names)), file)

    def test_one_plain_target_in_an_assignment(self):
        for file, node in nodes((ast.Assign, ast.AugAssign)):
            target = node.targets[0] if isinstance(node, ast.Assign) else node.target
            self.assertIsInstance(target, (ast.Name, ast.Attribute, ast.Subscript), (file, node.lineno))

    def test_is_stands_beside_plain_values(self):
        for file, node in nodes(ast.Compare):
            for sign, right in zip(node.ops, node.comparators):
                if isinstance(sign, (ast.Is, ast.IsNot)):
                    self.assertIsInstance(right, ast.Constant, (file, node.lineno))
                    self.assertIn(right.value, (None, True, False), (file, node.lineno))

    def test_keywords(self):
        for file, node in nodes(ast.Call):
            if isinstance(node.func, ast.Name) and node.func.id in KEYWORDS:
                self.assertLessEqual({word.arg for word in node.keywords}, KEYWORDS[node.func.id], (file, node.lineno))
            elif isinstance(node.func, ast.Attribute) or node.func.id in OWN_NAMES:
                self.assertEqual(node.keywords, [], (file, node.lineno))

    def test_walks(self):
        for file, node in nodes(ast.ListComp):
            self.assertEqual(len(node.generators), 1, (file, node.lineno))
            self.assertLessEqual(len(node.generators[0].ifs), 1, (file, node.lineno))
        rows = [(file, node.lineno) for file, node in nodes(ast.Lambda)]
        self.assertEqual(len(rows), len(set(rows)))

    def test_no_annotations(self):
        for file, node in nodes(ast.arg):
            self.assertIsNone(node.annotation, (file, node.lineno))
        for file, node in nodes(ast.FunctionDef):
            self.assertIsNone(node.returns, (file, node.lineno))

    def test_methods_and_values(self):
        methods = [row.name for file, node in nodes(ast.ClassDef) for row in node.body]
        values = [node.attr for file, node in nodes(ast.Attribute) if isinstance(node.ctx, ast.Store)]
        self.assertEqual(set(methods) & set(values), set())
        for file, node in nodes(ast.Call):
            if isinstance(node.func, ast.Attribute):
                self.assertIn(node.func.attr, OWN_METHODS + methods, (file, node.lineno))
        for file, node in nodes(ast.Attribute):
            self.assertNotIn(node.attr, NOT_USED, file)
