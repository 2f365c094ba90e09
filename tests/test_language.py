"""The package's files keep to the part of Python that the program is written in."""

import ast
import builtins
import pathlib
import re
import unittest

PACKAGE = pathlib.Path(__file__).resolve().parent.parent / "lostpost"
ERRORS = set("""Exception ValueError TypeError KeyError IndexError LookupError ZeroDivisionError ArithmeticError
    OverflowError RuntimeError NotImplementedError AttributeError StopIteration""".split())
CALLED = set("""len range enumerate zip min max sum abs sorted reversed int str bool list tuple dict set frozenset
    isinstance ord repr any all divmod""".split())
METHODS = set("""append clear copy count endswith extend find get index insert isalnum isalpha isdigit islower isspace
    isupper items join keys ljust lower lstrip partition pop remove replace reverse rfind rjust rpartition rsplit
    rstrip setdefault split splitlines startswith strip update upper values zfill bit_length""".split())
CHANGING = set("append clear extend insert pop remove reverse setdefault update".split())
DUNDERS = set("__init__ __eq__ __repr__ __str__ __len__ __all__ __version__".split())
UNUSED = set("""register mro elements open input version_info with_traceback add_note attrgetter breakpoint builtins
    compile copyright credits delattr dir eval exec exit gc getattr globals hasattr help id importlib license locals
    methodcaller os quit setattr super vars sys""".split())
WORDS_NOWHERE = re.compile(r"""\b(type|typing|typing_extensions|enum|Enum|IntEnum|StrEnum|Flag|IntFlag|Generic|Protocol
    |ABC|ABCMeta|namedtuple|NamedTuple|TypedDict|TYPE_CHECKING|abstractmethod)\b|dataclass|overload|contextmanager""", re.X)
STATEMENTS = (ast.FunctionDef, ast.ClassDef, ast.Return, ast.Assign, ast.AugAssign, ast.For, ast.While, ast.If,
              ast.Raise, ast.Try, ast.ImportFrom, ast.Expr, ast.Pass, ast.Break, ast.Continue)
EXPRESSIONS = (ast.BoolOp, ast.BinOp, ast.UnaryOp, ast.Lambda, ast.IfExp, ast.Dict, ast.ListComp, ast.Compare, ast.Call,
               ast.FormattedValue, ast.JoinedStr, ast.Constant, ast.Attribute, ast.Subscript, ast.Name, ast.List,
               ast.Tuple, ast.Slice, ast.Set)
AT_ONCE = ("zip", "enumerate", "reversed", "range")
TAKERS = set("list tuple dict sorted sum any all enumerate zip min max join".split())
VIEWS = ("items", "keys", "values")


class Language(unittest.TestCase):
    @classmethod
    def setUpClass(cls):
        cls.texts = {path.name: path.read_text(encoding="utf-8") for path in sorted(PACKAGE.glob("*.py"))}
        cls.trees = {name: ast.parse(text) for name, text in cls.texts.items()}

    def nodes(self, *kinds):
        for name, tree in self.trees.items():
            for node in ast.walk(tree):
                if isinstance(node, kinds):
                    yield f"{name}:{getattr(node, 'lineno', '?')}", node

    def names_bound(self):
        for where, node in self.nodes(ast.Name, ast.arg, ast.FunctionDef, ast.ClassDef, ast.Attribute):
            if isinstance(node, ast.Name) and isinstance(node.ctx, ast.Store):
                yield where, node.id
            elif isinstance(node, ast.arg):
                yield where, node.arg
            elif isinstance(node, (ast.FunctionDef, ast.ClassDef)):
                yield where, node.name
            elif isinstance(node, ast.Attribute) and isinstance(node.ctx, ast.Store):
                yield where, node.attr

    def test_files(self):
        for path in PACKAGE.rglob("*"):
            if "__pycache__" not in path.parts:
                self.assertRegex(path.name, r"^[a-z_][a-z0-9_]*\.py$")
                self.assertNotIn(path.stem, dir(builtins))
        self.assertIn("__init__.py", self.texts)

    def test_signs_and_sizes(self):
        for name, text in self.texts.items():
            self.assertRegex(text, r"^[ -~\n]*\Z", name)
            rows = text.split("\n")
            self.assertLessEqual(len(rows), 400, name)
            self.assertLessEqual(max(len(row) for row in rows), 120, name)
        for where, node in self.nodes(ast.FunctionDef):
            self.assertLessEqual(node.end_lineno - node.lineno + 1, 40, where)

    def test_words_that_stand_nowhere(self):
        for name, text in self.texts.items():
            self.assertIsNone(WORDS_NOWHERE.search(text), name)

    def test_imports(self):
        drawn = {}
        for name, tree in self.trees.items():
            bound = set()
            for row in [node for node in ast.walk(tree) if isinstance(node, ast.ImportFrom)]:
                self.assertIn(row, tree.body, name)
                self.assertEqual(row.level, 0, name)
                source = row.module.removeprefix("lostpost.") + ".py"
                self.assertIn(source, self.texts, name)
                drawn.setdefault(name, set()).add(source)
                for alias in row.names:
                    self.assertIn(alias.name, self.top_names(source), name)
                    bound.add(alias.asname or alias.name)
            used = {node.id for node in ast.walk(tree) if isinstance(node, ast.Name)}
            self.assertEqual(bound - used, set(), name)
        self.assert_no_ring(drawn)

    def top_names(self, name):
        told = []
        for node in self.trees[name].body:
            if isinstance(node, (ast.FunctionDef, ast.ClassDef)):
                told.append(node.name)
            elif isinstance(node, ast.Assign):
                told.append(node.targets[0].id)
        return told

    def assert_no_ring(self, drawn):
        left = dict(drawn)
        while left:
            free = [name for name, sources in left.items() if not any(source in left for source in sources)]
            self.assertTrue(free, left)
            for name in free:
                left.pop(name)

    def test_tops(self):
        for name, tree in self.trees.items():
            for node in tree.body:
                docstring = isinstance(node, ast.Expr) and isinstance(node.value, ast.Constant)
                kinds = (ast.ImportFrom, ast.FunctionDef, ast.ClassDef, ast.Assign)
                self.assertTrue(docstring or isinstance(node, kinds), f"{name}:{node.lineno}")
            names = self.top_names(name)
            self.assertEqual(len(names), len(set(names)), name)

    def test_statements(self):
        for where, node in self.nodes(ast.stmt):
            self.assertIsInstance(node, STATEMENTS, where)
            if isinstance(node, ast.Assign):
                self.assertEqual(len(node.targets), 1, where)
                self.assertNotIsInstance(node.targets[0], (ast.Tuple, ast.List), where)
            if isinstance(node, (ast.For, ast.While)):
                self.assertEqual(node.orelse, [], where)
            if isinstance(node, ast.Try):
                self.assertEqual(node.finalbody, [], where)
            if isinstance(node, ast.Expr) and node.col_offset > 0:
                self.assertIsInstance(node.value, ast.Call, where)

    def test_functions_and_classes(self):
        for where, node in self.nodes(ast.FunctionDef, ast.ClassDef):
            self.assertEqual(node.decorator_list, [], where)
        for where, node in self.nodes(ast.arguments):
            self.assertFalse(node.vararg or node.kwarg or node.kwonlyargs or node.posonlyargs, where)
        for where, node in self.nodes(ast.ClassDef):
            self.assertLessEqual(len(node.bases), 1, where)
            self.assertTrue(all(isinstance(part, (ast.FunctionDef, ast.Pass)) for part in node.body), where)

    def test_expressions(self):
        for where, node in self.nodes(ast.expr):
            self.assertIsInstance(node, EXPRESSIONS, where)
            if isinstance(node, ast.ListComp):
                self.assertEqual(len(node.generators), 1, where)
                self.assertLessEqual(len(node.generators[0].ifs), 1, where)
            if isinstance(node, ast.Constant):
                self.assertNotIsInstance(node.value, (float, bytes, complex), where)
                self.assertFalse(isinstance(node.value, str) and "%" in node.value, where)
            if isinstance(node, ast.FormattedValue):
                self.assertIsInstance(node.value, ast.Name, where)
                self.assertIsNone(node.format_spec, where)
            if isinstance(node, ast.BinOp):
                self.assertNotIsInstance(node.op, (ast.Div, ast.MatMult), where)

    def test_is_stands_beside_none_true_false(self):
        for where, node in self.nodes(ast.Compare):
            for op, right in zip(node.ops, node.comparators):
                if isinstance(op, (ast.Is, ast.IsNot)):
                    self.assertTrue(isinstance(right, ast.Constant) and right.value in (None, True, False), where)

    def test_names(self):
        for where, name in self.names_bound():
            if name not in DUNDERS:
                self.assertRegex(name, r"^[A-Za-z][A-Za-z0-9_]*$", where)
            self.assertNotIn(name, UNUSED, where)
            self.assertNotIn(name, dir(builtins), where)
        for where, node in self.nodes(ast.Name):
            if node.id in dir(builtins):
                self.assertIn(node.id, CALLED | ERRORS, where)

    def test_no_local_is_called_like_an_import_or_a_class(self):
        for name, tree in self.trees.items():
            taken = {alias.name for node in tree.body if isinstance(node, ast.ImportFrom) for alias in node.names}
            taken |= {node.name for node in tree.body if isinstance(node, ast.ClassDef)}
            for node in ast.walk(tree):
                if isinstance(node, ast.arg):
                    self.assertNotIn(node.arg, taken, f"{name}:{node.lineno}")
                if isinstance(node, ast.Name) and isinstance(node.ctx, ast.Store):
                    self.assertNotIn(node.id, taken, f"{name}:{node.lineno}")

    def test_pythons_own_are_called(self):
        called = [node.func for _, node in self.nodes(ast.Call)]
        keys = [word.value for _, node in self.nodes(ast.Call) for word in node.keywords]
        bases = {"isinstance": [node.args[1] for _, node in self.nodes(ast.Call) if self.name_of(node) == "isinstance"]}
        for where, node in self.nodes(ast.Name):
            if node.id in CALLED:
                self.assertIn(node, called + keys + bases["isinstance"], where)

    def name_of(self, call):
        return call.func.id if isinstance(call.func, ast.Name) else getattr(call.func, "attr", None)

    def test_methods(self):
        own = {node.name for _, node in self.nodes(ast.FunctionDef)}
        for where, node in self.nodes(ast.Call):
            if isinstance(node.func, ast.Attribute):
                self.assertIn(node.func.attr, METHODS | own | {"__init__"}, where)

    def test_keywords(self):
        allowed = {"sorted": {"key", "reverse"}, "min": {"key", "default"}, "max": {"key", "default"}, "sum": {"start"},
                   "enumerate": {"start"}, "zip": {"strict"}}
        for where, node in self.nodes(ast.Call):
            name = self.name_of(node)
            if name in CALLED | METHODS:
                self.assertLessEqual({word.arg for word in node.keywords}, allowed.get(name, set()), where)

    def test_sets_are_not_kept(self):
        beside = []
        for _, node in self.nodes(ast.Call, ast.Compare):
            if isinstance(node, ast.Compare):
                beside.extend([node.left] + node.comparators)
            elif self.name_of(node) in ("sorted", "len") and not node.keywords:
                beside.extend(node.args)
        for _, node in self.nodes(ast.BinOp):
            if node in beside and isinstance(node.op, (ast.Sub, ast.BitAnd, ast.BitOr, ast.BitXor)):
                beside.extend([node.left, node.right])
        for where, node in self.nodes(ast.Call, ast.Set):
            if isinstance(node, ast.Set) or self.name_of(node) in ("set", "frozenset"):
                self.assertIn(node, beside, where)

    def test_walked_at_once(self):
        walked = [node.iter for _, node in self.nodes(ast.For)]
        walked += [part.iter for _, node in self.nodes(ast.ListComp) for part in node.generators]
        for _, node in self.nodes(ast.Call):
            if self.name_of(node) in TAKERS:
                walked.extend(node.args if self.name_of(node) == "zip" else node.args[:1])
        for where, node in self.nodes(ast.Call):
            own_name = isinstance(node.func, ast.Name) and self.name_of(node) in AT_ONCE
            view = isinstance(node.func, ast.Attribute) and node.func.attr in VIEWS
            if own_name or view:
                self.assertIn(node, walked, where)

    def test_what_a_loop_walks_is_not_changed_in_it(self):
        for where, loop in self.nodes(ast.For):
            names = {node.id for node in ast.walk(loop.iter) if isinstance(node, ast.Name)}
            for node in [part for row in loop.body for part in ast.walk(row)]:
                if isinstance(node, ast.Call) and isinstance(node.func, ast.Attribute) and node.func.attr in CHANGING:
                    if isinstance(node.func.value, ast.Name):
                        self.assertNotIn(node.func.value.id, names, where)
                if isinstance(node, ast.Subscript) and isinstance(node.ctx, ast.Store):
                    if isinstance(node.value, ast.Name):
                        self.assertNotIn(node.value.id, names, where)

    def test_no_annotations(self):
        for where, node in self.nodes(ast.FunctionDef, ast.arg):
            note = node.returns if isinstance(node, ast.FunctionDef) else node.annotation
            self.assertIsNone(note, where)
