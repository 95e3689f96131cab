"""What can be seen of LANGUAGE.md in the package's own files, rule by rule."""

import ast
import builtins
import pathlib
import re
import unittest

PACKAGE = pathlib.Path(__file__).resolve().parent.parent / "codemill"

OWN_NAMES = frozenset(
    "len range enumerate zip min max sum abs sorted reversed int str bool bytes list tuple dict set isinstance ord "
    "repr any all divmod Exception ValueError TypeError KeyError IndexError LookupError ZeroDivisionError "
    "ArithmeticError OverflowError RuntimeError NotImplementedError AttributeError StopIteration".split()
)
METHODS = frozenset(
    "append clear copy count endswith extend find get index insert isalnum isalpha isdigit islower isspace isupper "
    "items join keys ljust lower lstrip partition pop remove replace reverse rfind rjust rpartition rsplit rstrip "
    "setdefault split splitlines startswith strip update upper values zfill bit_length title capitalize swapcase "
    "casefold center removeprefix removesuffix rindex isascii isdecimal isnumeric istitle isidentifier isprintable "
    "add discard sort".split()
)
BANNED_NODES = (
    ast.With, ast.AsyncWith, ast.AsyncFor, ast.AsyncFunctionDef, ast.Await, ast.Yield, ast.YieldFrom, ast.Global,
    ast.Nonlocal, ast.Match, ast.GeneratorExp, ast.NamedExpr, ast.TryStar,
)
BANNED_WORDS = re.compile(
    r"\b(type|typing|typing_extensions|enum|Enum|IntEnum|StrEnum|Flag|IntFlag|Generic|Protocol|ABC|ABCMeta|"
    r"namedtuple|NamedTuple|TypedDict|TYPE_CHECKING|abstractmethod)\b|dataclass|overload|contextmanager"
)
BANNED_NAMES = frozenset(
    "register mro elements open input version_info with_traceback add_note format format_map attrgetter breakpoint "
    "builtins compile copyright credits delattr dir eval exec exit gc getattr globals hasattr help id importlib "
    "license locals methodcaller os quit setattr super type vars sys chr frozenset bytearray memoryview".split()
)
CHANGING = ("append", "clear", "extend", "insert", "pop", "remove", "reverse", "setdefault", "update", "sort")
WALKING = ("list", "tuple", "dict", "sorted", "sum", "any", "all", "enumerate", "zip", "min", "max")
DUNDER_METHODS = ("__init__", "__eq__", "__repr__", "__str__", "__len__")
TOP_NODES = (ast.Import, ast.ImportFrom, ast.FunctionDef, ast.ClassDef, ast.Assign, ast.AnnAssign)


def is_docstring(node):
    return isinstance(node, ast.Expr) and isinstance(node.value, ast.Constant) and isinstance(node.value.value, str)


def bound_names(node):
    """The names that a node at a file's top binds."""
    if isinstance(node, ast.ImportFrom):
        return [alias.asname or alias.name for alias in node.names]
    if isinstance(node, (ast.FunctionDef, ast.ClassDef)):
        return [node.name]
    if isinstance(node, ast.Assign):
        return [target.id for target in node.targets]
    return []


def given_names(tree):
    """Every name that the file gives: parameters, locals, defs, handlers, values of objects."""
    names = []
    for node in ast.walk(tree):
        if isinstance(node, ast.Name) and isinstance(node.ctx, (ast.Store, ast.Del)):
            names.append(node.id)
        elif isinstance(node, ast.arg):
            names.append(node.arg)
        elif isinstance(node, (ast.FunctionDef, ast.ClassDef)):
            names.append(node.name)
        elif isinstance(node, ast.Attribute):
            names.append(node.attr)
        elif isinstance(node, ast.ExceptHandler) and node.name:
            names.append(node.name)
    return names


def local_names(tree):
    """Every parameter and local of the file's defs."""
    names = []
    for part in ast.walk(tree):
        if isinstance(part, ast.FunctionDef):
            names += [node.arg for node in ast.walk(part) if isinstance(node, ast.arg)]
            names += [node.id for node in ast.walk(part) if isinstance(node, ast.Name) and isinstance(node.ctx, ast.Store)]
    return names


def called(node):
    """The name that the node calls, None if it calls none by a plain name."""
    return node.func.id if isinstance(node, ast.Call) and isinstance(node.func, ast.Name) else None


def called_method(node):
    """The method that the node calls, None if it calls none."""
    return node.func.attr if isinstance(node, ast.Call) and isinstance(node.func, ast.Attribute) else None


class LanguageTest(unittest.TestCase):
    def setUp(self):
        self.files = sorted(path for path in PACKAGE.rglob("*") if "__pycache__" not in path.parts and path.is_file())
        self.texts = {path.name: path.read_text(encoding="utf-8") for path in self.files}
        self.trees = {name: ast.parse(text) for name, text in self.texts.items()}

    def nodes(self, *sorts):
        for name, tree in self.trees.items():
            for node in ast.walk(tree):
                if isinstance(node, sorts):
                    yield f"{name}:{node.lineno}", node

    def nodes_below(self):
        for name, tree in self.trees.items():
            for above in ast.walk(tree):
                for node in ast.iter_child_nodes(above):
                    yield f"{name}:{getattr(node, 'lineno', '')}", node, above

    def test_files(self):
        self.assertIn("__init__.py", self.texts)
        self.assertLessEqual(len(self.files), 100)
        for path in self.files:
            self.assertRegex(path.name, r"\A(__init__|__main__|[a-z][a-z0-9_]*)\.py\Z", "L1, L14")
            self.assertNotIn(path.stem, dir(builtins), "L14")

    def test_imports(self):
        for where, node in self.nodes(ast.Import, ast.ImportFrom):
            self.assertIsInstance(node, ast.ImportFrom, f"L16 {where}")
            self.assertEqual(node.level, 0, f"L2 {where}")
            self.assertTrue(node.module.startswith("codemill."), f"L2 {where}")
            names = [alias.name for alias in node.names]
            defined = []
            for part in self.trees[node.module.split(".")[-1] + ".py"].body:
                if not isinstance(part, ast.ImportFrom):
                    defined += bound_names(part)
            self.assertEqual([name for name in names if name not in defined], [], f"L16 {where}")

    def test_no_two_files_draw_from_one_another(self):
        draws = {name: [] for name in self.trees}
        for where, node in self.nodes(ast.ImportFrom):
            draws[where.split(":")[0]].append(node.module.split(".")[-1] + ".py")
        done = []
        while len(done) < len(draws):
            free = [name for name in draws if name not in done and all(other in done for other in draws[name])]
            self.assertTrue(free, f"L16 {sorted(set(draws) - set(done))}")
            done += free

    def test_top(self):
        for name, tree in self.trees.items():
            self.assertTrue(is_docstring(tree.body[0]), name)
            names = []
            for node in tree.body[1:]:
                self.assertIsInstance(node, TOP_NODES, f"L3 {name}:{node.lineno}")
                names += bound_names(node)
            self.assertEqual(sorted(names), sorted(set(names)), f"L15 {name}")

    def test_lists_at_the_top_hold_no_lists(self):
        for name, tree in self.trees.items():
            for node in tree.body:
                if isinstance(node, ast.Assign) and isinstance(node.value, (ast.List, ast.Dict)):
                    inner = [part for part in ast.walk(node.value) if isinstance(part, (ast.List, ast.Dict))]
                    self.assertEqual(len(inner), 1, f"L15 {name}:{node.lineno}")

    def test_defs(self):
        for where, node in self.nodes(ast.FunctionDef):
            self.assertEqual(node.decorator_list, [], f"L4 {where}")
            self.assertIsNone(node.args.vararg, f"L4 {where}")
            self.assertIsNone(node.args.kwarg, f"L4 {where}")
            self.assertEqual(node.args.posonlyargs, [], f"L4 {where}")
            self.assertLessEqual(node.end_lineno - node.lineno + 1, 40, f"L10 {where}")
            for default in node.args.defaults + [part for part in node.args.kw_defaults if part is not None]:
                self.assertIsInstance(default, (ast.Constant, ast.Tuple), f"L4 {where}")

    def test_classes(self):
        for where, node in self.nodes(ast.ClassDef):
            self.assertEqual(node.decorator_list, [], f"L5 {where}")
            self.assertEqual(node.keywords, [], f"L5 {where}")
            self.assertLessEqual(len(node.bases), 1, f"L5 {where}")
            for part in node.body:
                self.assertTrue(is_docstring(part) or isinstance(part, ast.FunctionDef), f"L5 {where}")

    def test_statements_and_expressions(self):
        for where, node in self.nodes(*BANNED_NODES):
            self.fail(f"L6, L7 {where} {node}")
        for where, node in self.nodes(ast.BinOp, ast.AugAssign):
            self.assertNotIsInstance(node.op, (ast.Div, ast.MatMult), f"L7 {where}")
        for where, node in self.nodes(ast.For, ast.While):
            self.assertEqual(node.orelse, [], f"L6 {where}")
        for where, node in self.nodes(ast.Constant):
            self.assertNotIsInstance(node.value, (float, complex), f"L7 {where}")
        for where, node in self.nodes(ast.FormattedValue):
            self.assertIsNone(node.format_spec, f"L7 {where}")

    def test_pythons_own_names(self):
        for where, node in self.nodes(ast.Name):
            if isinstance(node.ctx, ast.Load) and hasattr(builtins, node.id):
                self.assertIn(node.id, OWN_NAMES, f"L8 {where}")

    def test_names(self):
        for name, tree in self.trees.items():
            for given in given_names(tree):
                self.assertNotIn(given, BANNED_NAMES, f"L8, L17 {name}")
                if given not in DUNDER_METHODS:
                    self.assertRegex(given, r"\A[A-Za-z][A-Za-z0-9_]*\Z", f"L12 {name}")

    def test_locals(self):
        for name, tree in self.trees.items():
            taken = [bound for node in tree.body if isinstance(node, (ast.ImportFrom, ast.ClassDef)) for bound in bound_names(node)]
            for local in local_names(tree):
                self.assertFalse(hasattr(builtins, local), f"L15 {name} {local}")
                self.assertNotIn(local, taken, f"L15 {name}")

    def test_methods(self):
        own = [node.name for where, node in self.nodes(ast.FunctionDef)]
        for where, node in self.nodes(ast.Call):
            if isinstance(node.func, ast.Attribute):
                self.assertIn(node.func.attr, set(own) | METHODS, f"L25 {where}")

    def test_no_name_is_a_method_and_a_value(self):
        methods, values = set(), set()
        for where, node in self.nodes(ast.ClassDef):
            methods.update(part.name for part in node.body if isinstance(part, ast.FunctionDef))
        for where, node in self.nodes(ast.Attribute):
            if isinstance(node.ctx, ast.Store):
                values.add(node.attr)
        self.assertEqual(methods & values, set(), "L18")
        for where, node in self.nodes(ast.Attribute):
            self.assertIn(node.attr, methods | values | METHODS, f"L18 {where}")

    def test_methods_with_two_underscores(self):
        for where, node in self.nodes(ast.FunctionDef):
            returns = [part for part in ast.walk(node) if isinstance(part, ast.Return)]
            if node.name == "__init__":
                self.assertEqual(returns, [], f"L28 {where}")
            if node.name == "__len__":
                self.assertIsInstance(node.body[-1], ast.Return, f"L28 {where}")
                for part in returns:
                    self.assertEqual(called(part.value), "len", f"L28 {where}")
            if node.name == "__eq__":
                stored = [part for part in ast.walk(node) if isinstance(part, (ast.Assign, ast.AugAssign, ast.AnnAssign, ast.Delete))]
                self.assertEqual(stored, [], f"L28 {where}")
                self.assertFalse(any(called_method(part) in CHANGING for part in ast.walk(node)), f"L28 {where}")

    def test_walked_at_once(self):
        for where, node, above in self.nodes_below():
            if called(node) in ("zip", "enumerate", "reversed", "range") or called_method(node) in ("items", "keys", "values"):
                self.assertTrue(
                    isinstance(above, (ast.For, ast.comprehension)) or called(above) in WALKING
                    or (isinstance(above, ast.Compare) and called(node) == "range"), f"L23 {where}",
                )

    def test_sets(self):
        for where, node, above in self.nodes_below():
            if isinstance(node, (ast.SetComp, ast.Set)) or called(node) == "set":
                self.assertTrue(
                    called(above) in ("sorted", "len") or isinstance(above, (ast.Compare, ast.Assign)), f"L24 {where}",
                )

    def test_what_a_loop_walks_is_not_changed_in_it(self):
        for where, node in self.nodes(ast.For):
            walked = {part.id for part in ast.walk(node.iter) if isinstance(part, ast.Name)}
            for part in (inner for row in node.body for inner in ast.walk(row)):
                if called_method(part) in CHANGING and isinstance(part.func.value, ast.Name):
                    self.assertNotIn(part.func.value.id, walked, f"L23 {where}")

    def test_tops_are_only_read(self):
        for name, tree in self.trees.items():
            tops = {bound for node in tree.body if isinstance(node, ast.Assign) for bound in bound_names(node)}
            for node in ast.walk(tree):
                if called_method(node) in CHANGING and isinstance(node.func.value, ast.Name):
                    self.assertNotIn(node.func.value.id, tops, f"L15 {name}:{node.lineno}")
                if isinstance(node, ast.Subscript) and isinstance(node.ctx, ast.Store) and isinstance(node.value, ast.Name):
                    self.assertNotIn(node.value.id, tops, f"L15 {name}:{node.lineno}")

    def test_is(self):
        for where, node in self.nodes(ast.Compare):
            for op, other in zip(node.ops, node.comparators):
                if isinstance(op, (ast.Is, ast.IsNot)):
                    self.assertIsInstance(other, ast.Constant, f"L20 {where}")
                    self.assertIn(other.value, (None, True, False), f"L20 {where}")

    def test_handlers(self):
        for where, node in self.nodes(ast.ExceptHandler):
            self.assertIsNotNone(node.type, f"L6 {where}")
            for part in ast.walk(node.type):
                if isinstance(part, ast.Name):
                    self.assertNotIn(part.id, ("Exception", "TypeError", "BaseException"), f"L19 {where}")

    def test_raises(self):
        for where, node in self.nodes(ast.Raise):
            if node.exc is not None:
                self.assertIsInstance(node.exc, ast.Call, f"L19 {where}")
                self.assertIsInstance(node.exc.func, ast.Name, f"L19 {where}")

    def test_texts(self):
        for where, node in self.nodes(ast.Constant):
            if isinstance(node.value, str):
                self.assertNotIn("%", node.value, f"L27 {where}")

    def test_signs_and_sizes(self):
        for name, text in self.texts.items():
            lines = text.split("\n")
            self.assertLessEqual(len(lines) - 1, 400, f"L10 {name}")
            for at, line in enumerate(lines):
                self.assertLessEqual(len(line), 120, f"L10 {name}:{at + 1}")
                self.assertRegex(line, r"\A[ -~]*\Z", f"L14 {name}:{at + 1}")
                self.assertIsNone(BANNED_WORDS.search(line), f"L17 {name}:{at + 1}")
                self.assertIsNone(re.search(r"\\[^nt\\'\"]", line), f"L27 {name}:{at + 1}")


if __name__ == "__main__":
    unittest.main()
