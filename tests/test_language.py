"""The part of Python that the package keeps to (LANGUAGE.md): the rows that can be looked up in its files."""

import ast
import builtins
import pathlib
import re
import unittest

PACKAGE = pathlib.Path(__file__).resolve().parent.parent / "boxranks"
FILES = sorted(PACKAGE.glob("*.py"))

STATEMENTS = (ast.Assign, ast.AugAssign, ast.If, ast.While, ast.For, ast.Return, ast.Break, ast.Continue, ast.Pass,
              ast.Raise, ast.Try, ast.Expr, ast.FunctionDef, ast.ClassDef, ast.ImportFrom)
EXPRESSIONS = (ast.Constant, ast.List, ast.Tuple, ast.Dict, ast.BinOp, ast.UnaryOp, ast.BoolOp, ast.Compare, ast.IfExp,
               ast.Call, ast.Attribute, ast.Subscript, ast.Slice, ast.ListComp, ast.JoinedStr, ast.FormattedValue,
               ast.Name, ast.Lambda)
OWN_NAMES = """len range enumerate zip min max sum abs sorted reversed int str bool list tuple dict set frozenset
    isinstance ord repr any all divmod Exception ValueError TypeError KeyError IndexError LookupError
    ZeroDivisionError ArithmeticError OverflowError RuntimeError NotImplementedError AttributeError
    StopIteration""".split()
METHODS = """append clear copy count endswith extend find get index insert isalnum isalpha isdigit islower isspace
    isupper items join keys ljust lower lstrip partition pop remove replace reverse rfind rjust rpartition rsplit
    rstrip setdefault split splitlines startswith strip update upper values zfill bit_length""".split()
WORDS = """type typing typing_extensions enum Enum IntEnum StrEnum Flag IntFlag Generic Protocol ABC ABCMeta namedtuple
    NamedTuple TypedDict TYPE_CHECKING abstractmethod""".split()
UNUSED = """register mro elements open input version_info with_traceback add_note attrgetter breakpoint builtins
    compile copyright credits delattr dir eval exec exit gc getattr globals hasattr help id importlib license locals
    methodcaller os quit setattr super vars sys format format_map""".split()
FILE_NAMES_OUT = ["test", "tests", "testing", "site", "conftest", "sitecustomize", "usercustomize"] + WORDS + dir(builtins)


def bound_names(tree):
    """All names that a file gives a meaning to: defs, parameters, locals, imports, values of objects."""
    for node in ast.walk(tree):
        if isinstance(node, (ast.FunctionDef, ast.ClassDef)):
            yield node.name
        elif isinstance(node, ast.arg):
            yield node.arg
        elif isinstance(node, (ast.Name, ast.Attribute)) and isinstance(node.ctx, ast.Store):
            yield node.id if isinstance(node, ast.Name) else node.attr
        elif isinstance(node, ast.alias):
            yield node.name
        elif isinstance(node, ast.ExceptHandler) and node.name:
            yield node.name


class Language(unittest.TestCase):
    def each(self):
        for path in FILES:
            yield path, ast.parse(path.read_text("utf-8"))

    def nodes(self, *sorts):
        for path, tree in self.each():
            for node in ast.walk(tree):
                if isinstance(node, sorts):
                    yield node

    def test_files(self):
        self.assertIn(PACKAGE / "__init__.py", FILES)
        for path in PACKAGE.iterdir():
            if path.name != "__pycache__":
                self.assertRegex(path.name, r"\A([a-z][a-z0-9_]*|__init__)\.py\Z")
                self.assertNotIn(path.stem, FILE_NAMES_OUT)
                self.assertFalse(path.stem.startswith("test_"))

    def test_signs_and_sizes(self):
        for path, tree in self.each():
            text = path.read_text("utf-8")
            self.assertRegex(text, r"\A[ -~\n]*\Z")
            self.assertLessEqual(len(text.splitlines()), 400)
            self.assertLessEqual(max(len(row) for row in text.splitlines()), 120)
        for node in self.nodes(ast.FunctionDef):
            self.assertLessEqual(node.end_lineno - node.lineno + 1, 40, node.name)

    def test_words_that_stand_nowhere(self):
        for path, tree in self.each():
            text = path.read_text("utf-8")
            for word in WORDS:
                self.assertIsNone(re.search(rf"\b{word}\b", text), word)
            for word in ("dataclass", "overload", "contextmanager"):
                self.assertNotIn(word, text)

    def test_imports(self):
        drawn = {}
        for path, tree in self.each():
            drawn[path.stem] = []
            for node in ast.walk(tree):
                if isinstance(node, ast.ImportFrom):
                    self.assertIn(node, tree.body)
                    self.assertEqual(node.level, 0)
                    source = PACKAGE / (node.module.removeprefix("boxranks.") + ".py")
                    self.assertIn(source, FILES)
                    tops = set(self.tops(ast.parse(source.read_text("utf-8"))))
                    self.assertLessEqual({alias.name for alias in node.names}, tops)
                    self.assertTrue(all(alias.asname is None for alias in node.names))
                    drawn[path.stem].append(source.stem)
        while drawn:
            free = [stem for stem in drawn if not any(other in drawn for other in drawn[stem])]
            self.assertTrue(free, f"files that draw from one another: {sorted(drawn)}")
            drawn = {stem: drawn[stem] for stem in drawn if stem not in free}

    def tops(self, tree):
        for node in tree.body:
            if isinstance(node, (ast.FunctionDef, ast.ClassDef)):
                yield node.name
            elif isinstance(node, ast.Assign):
                yield node.targets[0].id

    def test_tops_hold_plain_values_bound_once(self):
        for path, tree in self.each():
            tops = list(self.tops(tree))
            self.assertEqual(len(tops), len(set(tops)))
            self.assertTrue(ast.get_docstring(tree))
            for node in tree.body:
                if isinstance(node, ast.Assign):
                    ast.literal_eval(node.value)
                elif isinstance(node, ast.Expr):
                    self.assertIs(node, tree.body[0])
                else:
                    self.assertIsInstance(node, (ast.FunctionDef, ast.ClassDef, ast.ImportFrom))

    def test_statements_and_expressions(self):
        for node in self.nodes(ast.stmt):
            self.assertIsInstance(node, STATEMENTS)
            if isinstance(node, ast.Assign):
                self.assertEqual(len(node.targets), 1)
            if isinstance(node, (ast.For, ast.While)):
                self.assertEqual(node.orelse, [])
            if isinstance(node, ast.Expr):
                self.assertIsInstance(node.value, (ast.Call, ast.Constant))
            if isinstance(node, ast.Try):
                self.assertEqual(node.finalbody, [])
                self.assertTrue(all(isinstance(handler.type, ast.Name) for handler in node.handlers))
        for node in self.nodes(ast.expr):
            self.assertIsInstance(node, EXPRESSIONS, ast.dump(node))
            self.assertNotIsInstance(getattr(node, "op", None), (ast.Div, ast.MatMult, ast.Pow))
            if isinstance(node, ast.Constant):
                self.assertIn(type(node.value), (int, str, bool, type(None)))
            if isinstance(node, ast.ListComp):
                self.assertEqual(len(node.generators), 1)
                self.assertLessEqual(len(node.generators[0].ifs), 1)
            if isinstance(node, ast.FormattedValue):
                self.assertIsInstance(node.value, ast.Name)
                self.assertIsNone(node.format_spec)

    def test_is_stands_beside_none_true_and_false(self):
        for node in self.nodes(ast.Compare):
            for op, right in zip(node.ops, node.comparators):
                if isinstance(op, (ast.Is, ast.IsNot)):
                    self.assertIsInstance(right, ast.Constant)
                    self.assertIn(right.value, (None, True, False))

    def test_defs_and_classes(self):
        for node in self.nodes(ast.FunctionDef, ast.ClassDef):
            self.assertEqual(node.decorator_list, [])
            self.assertTrue(ast.get_docstring(node) or node.name == "__init__", node.name)
        for node in self.nodes(ast.FunctionDef):
            given = node.args
            self.assertFalse(given.vararg or given.kwarg or given.kwonlyargs or given.posonlyargs)
            self.assertIsNone(node.returns)
        for node in self.nodes(ast.arg):
            self.assertIsNone(node.annotation)
        for node in self.nodes(ast.ClassDef):
            self.assertLessEqual(len(node.bases), 1)
            for row in node.body[1:]:
                self.assertIsInstance(row, ast.FunctionDef)

    def test_names(self):
        for path, tree in self.each():
            for name in bound_names(tree):
                if name != "__init__":
                    self.assertRegex(name, r"\A[A-Za-z][A-Za-z0-9_]*\Z")
                    self.assertNotIn(name, UNUSED)
                    self.assertNotIn(name, dir(builtins))

    def test_own_names_of_python(self):
        for path, tree in self.each():
            bound = set(bound_names(tree))
            for node in ast.walk(tree):
                if isinstance(node, ast.Name) and node.id not in bound:
                    self.assertIn(node.id, OWN_NAMES)

    def test_locals_are_not_called_like_classes_or_imports(self):
        for path, tree in self.each():
            taken = {node.name for node in tree.body if isinstance(node, ast.ClassDef)}
            taken |= {node.name for node in ast.walk(tree) if isinstance(node, ast.alias)}
            for node in ast.walk(tree):
                if isinstance(node, ast.arg):
                    self.assertNotIn(node.arg, taken)
                if isinstance(node, ast.Name) and isinstance(node.ctx, ast.Store):
                    self.assertNotIn(node.id, taken)

    def test_methods(self):
        own = {row.name for node in self.nodes(ast.ClassDef) for row in node.body if isinstance(row, ast.FunctionDef)}
        values = {node.attr for node in self.nodes(ast.Attribute) if isinstance(node.ctx, ast.Store)}
        self.assertEqual(own & values, set())
        theirs = {name for sort in (str, int, list, tuple, dict, set, bytes) for name in dir(sort)}
        self.assertEqual((own | values) & theirs, {"__init__"})
        for node in self.nodes(ast.Call):
            if isinstance(node.func, ast.Attribute):
                self.assertIn(node.func.attr, METHODS + sorted(own))

    def test_sets_stand_in_sorted_or_len_alone(self):
        within = []
        for node in self.nodes(ast.Call):
            if isinstance(node.func, ast.Name) and node.func.id in ("sorted", "len"):
                within.extend(node.args)
        for node in self.nodes(ast.Call):
            if isinstance(node.func, ast.Name) and node.func.id in ("set", "frozenset"):
                self.assertIn(ast.dump(node), [ast.dump(other) for other in within])

    def test_what_a_loop_walks_is_not_changed_in_it(self):
        for loop in self.nodes(ast.For):
            walked = {node.id for node in ast.walk(loop.iter) if isinstance(node, ast.Name)}
            for row in loop.body:
                for node in ast.walk(row):
                    if isinstance(node, ast.Subscript) and isinstance(node.ctx, ast.Store):
                        self.assertNotIn(getattr(node.value, "id", None), walked)
                    if isinstance(node, ast.Call) and isinstance(node.func, ast.Attribute):
                        if node.func.attr in ("append", "extend", "insert", "pop", "remove", "clear", "update"):
                            self.assertNotIn(getattr(node.func.value, "id", None), walked)
