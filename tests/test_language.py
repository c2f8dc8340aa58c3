"""The form of the package's own files: what of the rules of its language a look at the code can tell."""

import ast
import builtins
import pathlib
import re
import unittest

FOLDER = pathlib.Path(__file__).resolve().parent.parent / "lifenames"

STATEMENTS = (ast.Assign, ast.AugAssign, ast.If, ast.While, ast.For, ast.Return, ast.Break, ast.Continue, ast.Pass,
              ast.Raise, ast.Try, ast.Expr, ast.FunctionDef, ast.ClassDef, ast.ImportFrom)
EXPRESSIONS = (ast.Constant, ast.List, ast.Tuple, ast.Dict, ast.BinOp, ast.UnaryOp, ast.Compare, ast.BoolOp, ast.IfExp,
               ast.Call, ast.Attribute, ast.Subscript, ast.Slice, ast.ListComp, ast.JoinedStr, ast.FormattedValue,
               ast.Name, ast.Lambda)
OWN_NAMES = set("""len range enumerate zip min max sum abs sorted reversed int str bool list tuple dict set frozenset
    isinstance ord repr any all divmod Exception ValueError TypeError KeyError IndexError LookupError ZeroDivisionError
    ArithmeticError OverflowError RuntimeError NotImplementedError StopIteration""".split())
METHODS = set("""append clear copy count endswith extend find get index insert isalnum isalpha isdigit islower isspace
    isupper items join keys ljust lower lstrip partition pop remove replace reverse rfind rjust rpartition rsplit rstrip
    setdefault split splitlines startswith strip update upper values zfill bit_length""".split())
CHANGES = set("append clear extend insert pop remove reverse setdefault update".split())
NOT_USED = set("""register mro elements open input version_info with_traceback add_note format format_map attrgetter
    breakpoint builtins compile copyright credits delattr dir eval exec exit gc getattr globals hasattr help id importlib
    license locals methodcaller os quit setattr super type vars sys chr print bytes float""".split())
WORDS = re.compile(r"\b(type|typing|typing_extensions|enum|Enum|IntEnum|StrEnum|Flag|IntFlag|Generic|Protocol|ABC|"
                   r"ABCMeta|namedtuple|NamedTuple|TypedDict|TYPE_CHECKING|abstractmethod)\b"
                   r"|dataclass|overload|contextmanager")
WALKED = ("zip", "enumerate", "reversed", "range")


def sources():
    return sorted(FOLDER.glob("*.py"))


def trees():
    return [(path, ast.parse(path.read_text(encoding="utf-8"))) for path in sources()]


def statements(tree):
    return [node for node in ast.walk(tree) if isinstance(node, ast.stmt)]


def bound_names(node):
    """The names of parameters and locals in a function."""
    names = []
    for inner in ast.walk(node):
        if isinstance(inner, ast.arg):
            names.append(inner.arg)
        if isinstance(inner, ast.Name) and isinstance(inner.ctx, ast.Store):
            names.append(inner.id)
        if isinstance(inner, ast.ExceptHandler) and inner.name:
            names.append(inner.name)
    return names


class FilesTest(unittest.TestCase):
    def test_files(self):
        lying = [path for path in FOLDER.iterdir() if path.name != "__pycache__"]
        self.assertEqual(sorted(lying), sources())
        self.assertIn(FOLDER / "__init__.py", lying)
        for path in lying:
            self.assertRegex(path.name, r"^(__init__|[a-z][a-z0-9_]*)\.py$")
            self.assertFalse(path.stem != "__init__" and hasattr(builtins, path.stem))
            self.assertIsNone(re.match(r"tests?$|testing$|test_|site$|conftest$", path.stem))

    def test_signs_and_size(self):
        for path in sources():
            text = path.read_text(encoding="utf-8")
            self.assertIsNone(re.search(r"[^ -~\n]", text), path)
            self.assertIsNone(WORDS.search(text), path)
            self.assertLessEqual(len(text.splitlines()), 400, path)
            for line in text.splitlines():
                self.assertLessEqual(len(line), 120, path)

    def test_size_of_functions(self):
        for path, tree in trees():
            for node in ast.walk(tree):
                if isinstance(node, ast.FunctionDef):
                    self.assertLessEqual(node.end_lineno - node.lineno + 1, 40, (path, node.name))


class CodeTest(unittest.TestCase):
    def test_statements(self):
        for path, tree in trees():
            for node in statements(tree):
                where = (path.name, node.lineno)
                self.assertIsInstance(node, STATEMENTS, where)
                if isinstance(node, ast.Assign):
                    self.assertEqual(len(node.targets), 1, where)
                    self.assertNotIsInstance(node.targets[0], (ast.Tuple, ast.List), where)
                if isinstance(node, (ast.For, ast.While)):
                    self.assertEqual(node.orelse, [], where)
                if isinstance(node, ast.Try):
                    self.assertEqual(node.finalbody, [], where)
                    for handler in node.handlers:
                        self.assertIsInstance(handler.type, ast.Name, where)
                        self.assertNotIn(handler.type.id, ("Exception", "TypeError"), where)
                if isinstance(node, ast.Expr) and node is not tree.body[0]:
                    self.assertIsInstance(node.value, ast.Call, where)

    def test_expressions(self):
        for path, tree in trees():
            for node in ast.walk(tree):
                where = (path.name, getattr(node, "lineno", 0))
                if isinstance(node, ast.expr):
                    self.assertIsInstance(node, EXPRESSIONS, where)
                if isinstance(node, ast.Constant):
                    self.assertIsInstance(node.value, (int, str, bool, None.__class__), where)
                    if isinstance(node.value, str):
                        self.assertNotIn("%", node.value, where)
                if isinstance(node, ast.BinOp):
                    self.assertNotIsInstance(node.op, (ast.Div, ast.MatMult, ast.Pow), where)
                if isinstance(node, ast.ListComp):
                    self.assertEqual(len(node.generators), 1, where)
                    self.assertLessEqual(len(node.generators[0].ifs), 1, where)
                if isinstance(node, ast.FormattedValue):
                    self.assertIsInstance(node.value, ast.Name, where)
                    self.assertIsNone(node.format_spec, where)
                if isinstance(node, ast.Compare):
                    for op, other in zip(node.ops, node.comparators):
                        if isinstance(op, (ast.Is, ast.IsNot)):
                            self.assertIn(getattr(other, "value", "x"), (None, True, False), where)

    def test_functions(self):
        for path, tree in trees():
            for node in ast.walk(tree):
                if isinstance(node, ast.FunctionDef):
                    where = (path.name, node.name)
                    arguments = node.args
                    self.assertEqual(node.decorator_list, [], where)
                    self.assertIsNone(arguments.vararg, where)
                    self.assertIsNone(arguments.kwarg, where)
                    self.assertEqual(arguments.kwonlyargs + arguments.posonlyargs, [], where)
                    self.assertIsNone(node.returns, where)
                    self.assertTrue(all(one.annotation is None for one in arguments.args), where)

    def test_classes(self):
        methods = []
        values = []
        for path, tree in trees():
            for node in ast.walk(tree):
                if isinstance(node, ast.ClassDef):
                    self.assertIn(node, tree.body)
                    self.assertEqual(node.decorator_list, [])
                    self.assertLessEqual(len(node.bases), 1)
                    for inner in node.body:
                        self.assertIsInstance(inner, ast.FunctionDef, (path.name, node.name))
                        methods.append(inner.name)
                if isinstance(node, ast.Attribute) and isinstance(node.ctx, ast.Store):
                    self.assertIsInstance(node.value, ast.Name)
                    values.append(node.attr)
        self.assertEqual(set(methods) & set(values), set())
        taken = set(dir("") + dir(0) + dir([]) + dir({}) + dir(set()) + dir(b""))
        self.assertEqual((set(methods) - {"__init__"}) & taken, set())
        self.assertEqual(set(values) & taken, set())

    def test_calls_of_methods(self):
        own = {inner.name for _, tree in trees() for node in tree.body if isinstance(node, ast.ClassDef)
               for inner in node.body}
        for path, tree in trees():
            for node in ast.walk(tree):
                if isinstance(node, ast.Call) and isinstance(node.func, ast.Attribute):
                    self.assertIn(node.func.attr, METHODS | own, (path.name, node.lineno))
                    if node.func.attr == "join":
                        self.assertIsInstance(node.func.value, ast.Constant)

    def test_top_of_modules(self):
        for path, tree in trees():
            self.assertIsInstance(tree.body[0].value.value, str)
            bound = []
            for node in tree.body[1:]:
                self.assertIsInstance(node, (ast.ImportFrom, ast.FunctionDef, ast.ClassDef, ast.Assign), path)
                if isinstance(node, ast.ImportFrom):
                    bound += [name.name for name in node.names]
                elif isinstance(node, ast.Assign):
                    bound.append(node.targets[0].id)
                    for inner in ast.walk(node.value):
                        self.assertNotIsInstance(inner, (ast.Call, ast.BinOp, ast.ListComp, ast.Lambda, ast.Set))
                        if isinstance(inner, (ast.List, ast.Dict)):
                            self.assertIs(inner, node.value)
                else:
                    bound.append(node.name)
            self.assertEqual(len(bound), len(set(bound)), path)

    def test_tables_are_only_read(self):
        for path, tree in trees():
            tables = {node.targets[0].id for node in tree.body
                      if isinstance(node, ast.Assign) and isinstance(node.value, (ast.List, ast.Dict))}
            for node in ast.walk(tree):
                if isinstance(node, ast.Call):
                    given = [one.id for one in node.args if isinstance(one, ast.Name)]
                    self.assertEqual(tables & set(given), set(), (path.name, node.lineno))
                    if isinstance(node.func, ast.Attribute) and isinstance(node.func.value, ast.Name):
                        self.assertFalse(node.func.value.id in tables and node.func.attr in CHANGES)
                if isinstance(node, ast.Subscript) and isinstance(node.ctx, ast.Store):
                    self.assertNotIn(getattr(node.value, "id", ""), tables)

    def test_names(self):
        for path, tree in trees():
            known = {node.name for node in ast.walk(tree) if isinstance(node, ast.ClassDef)}
            known |= {name.name for node in tree.body if isinstance(node, ast.ImportFrom) for name in node.names}
            for node in ast.walk(tree):
                if isinstance(node, ast.FunctionDef):
                    for name in bound_names(node):
                        self.assertRegex(name, r"^[A-Za-z][A-Za-z0-9_]*$")
                        self.assertNotIn(name, known, (path.name, node.name))
                        self.assertFalse(hasattr(builtins, name), (path.name, node.name, name))
                if isinstance(node, ast.Name):
                    self.assertNotIn(node.id, NOT_USED, (path.name, node.lineno))
                    if hasattr(builtins, node.id):
                        self.assertIn(node.id, OWN_NAMES, (path.name, node.lineno))
                if isinstance(node, ast.Attribute):
                    self.assertNotIn(node.attr, NOT_USED, (path.name, node.lineno))

    def test_imports(self):
        defined = {}
        drawn_from = {}
        for path, tree in trees():
            module = "lifenames." + path.stem
            defined[module] = {node.name for node in tree.body if isinstance(node, (ast.FunctionDef, ast.ClassDef))}
            defined[module] |= {node.targets[0].id for node in tree.body if isinstance(node, ast.Assign)}
            drawn_from[module] = [node for node in ast.walk(tree) if isinstance(node, ast.ImportFrom)]
        self.assertEqual(drawn_from["lifenames.__init__"], [])
        for module, rows in drawn_from.items():
            for node in rows:
                self.assertEqual(node.level, 0)
                for name in node.names:
                    self.assertIn(name.name, defined[node.module], module)
                    self.assertIsNone(name.asname)
        left = {module: {node.module for node in rows} for module, rows in drawn_from.items()}
        while left:
            free = [module for module, others in left.items() if not others & set(left)]
            self.assertNotEqual(free, [], left)
            for module in free:
                left.pop(module)

    def test_walked_at_once(self):
        for path, tree in trees():
            allowed = []
            for node in ast.walk(tree):
                if isinstance(node, (ast.For, ast.comprehension)):
                    allowed.append(node.iter)
                if isinstance(node, ast.Call) and getattr(node.func, "id", "") in OWN_NAMES:
                    allowed += node.args[:1]
            for node in ast.walk(tree):
                if isinstance(node, ast.Call):
                    called = getattr(node.func, "id", getattr(node.func, "attr", ""))
                    if called in WALKED + ("items", "keys", "values"):
                        self.assertIn(node, allowed, (path.name, node.lineno))


if __name__ == "__main__":
    unittest.main()
