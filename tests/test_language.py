"""The package keeps to its small subset of Python, as far as a test can see.

The tests are named by the rules of LANGUAGE.md. The package uses less than the
rules allow (no generators, no `try`, no decorator but `property`), which makes
them simple.
"""
import ast
import builtins
import re
import unittest
from pathlib import Path

PACKAGE = Path(__file__).resolve().parent.parent / "bucketsums"
FILES = sorted(PACKAGE.glob("*.py"))
TREES = {path: ast.parse(path.read_text(encoding="ascii")) for path in FILES}

ALLOWED_BUILTINS = set(
    "len range enumerate zip min max sum abs sorted reversed int str bool bytes list tuple dict set "
    "isinstance ord repr any all divmod Exception ValueError TypeError KeyError IndexError".split())
LIBRARY = {"math": {"gcd", "lcm", "isqrt", "comb", "perm", "factorial"}}
METHODS = set(
    "append clear copy count endswith extend find get index insert isalnum isalpha isdigit islower "
    "isspace isupper items join keys ljust lower lstrip partition pop remove replace reverse rfind "
    "rjust rpartition rsplit rstrip setdefault split splitlines startswith strip update upper values "
    "zfill bit_length add discard".split())
NO_NODES = (
    ast.GeneratorExp, ast.Global, ast.AsyncFunctionDef, ast.Await, ast.Yield, ast.YieldFrom, ast.Try,
    ast.Div, ast.Starred, ast.NamedExpr, ast.AnnAssign, ast.Set, ast.Import, ast.MatMult,
)
BARRED = set(
    "type typing typing_extensions enum Enum IntEnum StrEnum Flag Generic Protocol ABC ABCMeta namedtuple "
    "NamedTuple TypedDict abstractmethod register mro elements open input law version_info eval exec "
    "exit getattr setattr hasattr globals locals vars dir id help os sys super_ _outside _cold _record "
    "_written_out _member_names format format_map".split())
DUNDERS = {"__init__", "__eq__", "__len__", "__getitem__", "__iter__", "__enter__", "__exit__"}
KEYWORDS = {"sorted": {"reverse"}, "min": {"default"}, "max": {"default"}}


def nodes(*kinds):
    """Each node of these kinds, with its file."""
    return [(path.name, node) for path in FILES for node in ast.walk(TREES[path]) if isinstance(node, kinds)]


def bound_names(tree):
    """Names that the module itself binds."""
    found = []
    for node in tree.body:
        if isinstance(node, (ast.FunctionDef, ast.ClassDef)):
            found.append(node.name)
        elif isinstance(node, ast.ImportFrom):
            found += [alias.name for alias in node.names]
        elif isinstance(node, ast.Assign):
            found += [target.id for target in node.targets]
    return found


def local_names(tree):
    """Parameters and everything that is assigned in a function."""
    found = set()
    for node in ast.walk(tree):
        if isinstance(node, ast.FunctionDef):
            for inner in ast.walk(node):
                if isinstance(inner, ast.Name) and isinstance(inner.ctx, ast.Store):
                    found.add(inner.id)
                if isinstance(inner, ast.arg):
                    found.add(inner.arg)
    return found


def properties():
    """Each property, with its file."""
    return [(name, node) for name, node in nodes(ast.FunctionDef)
            if [ast.unparse(one) for one in node.decorator_list] == ["property"]]


def statements(function):
    """The statements of a function behind its docstring."""
    return function.body[1:] if ast.get_docstring(function) is not None else function.body


def docstrings(tree):
    """The nodes of all docstrings."""
    found = []
    for node in ast.walk(tree):
        if isinstance(node, (ast.Module, ast.ClassDef, ast.FunctionDef)) and ast.get_docstring(node) is not None:
            found.append(node.body[0].value)
    return found


class Language(unittest.TestCase):
    def test_l1_l14_files(self):
        self.assertGreater(len(FILES), 1)
        for path in PACKAGE.iterdir():
            if path.name != "__pycache__":
                self.assertRegex(path.name, r"^[a-z0-9_]+\.py$")
                self.assertTrue(all(32 <= byte <= 126 or byte == 10 for byte in path.read_bytes()), path)

    def test_l2_l16_imports(self):
        for name, node in nodes(ast.ImportFrom):
            for alias in node.names:
                self.assertIsNone(alias.asname)
                self.assertEqual(node.level, 0)
                if node.module in LIBRARY:
                    self.assertIn(alias.name, LIBRARY[node.module])
                    continue
                parts = node.module.split(".")
                self.assertEqual((len(parts), parts[0]), (2, "bucketsums"), name)
                tree = TREES[PACKAGE / f"{parts[1]}.py"]
                defined = [item for item in tree.body if not isinstance(item, ast.ImportFrom)]
                self.assertIn(alias.name, bound_names(ast.Module(body=defined, type_ignores=[])), name)

    def test_l16_no_two_files_import_from_each_other(self):
        needs = {path.stem: {node.module.split(".")[1] for node in TREES[path].body
                             if isinstance(node, ast.ImportFrom) and "." in node.module} for path in FILES}
        while needs:
            free = [name for name in needs if not needs[name] & set(needs)]
            self.assertTrue(free, needs)
            needs = {name: needs[name] for name in needs if name not in free}

    def test_l3_module_level(self):
        for path in FILES:
            for at, node in enumerate(TREES[path].body):
                doc = at == 0 and isinstance(node, ast.Expr) and isinstance(node.value, ast.Constant)
                kinds = (ast.FunctionDef, ast.ClassDef, ast.ImportFrom, ast.Assign)
                self.assertTrue(doc or isinstance(node, kinds), path.name)
                if isinstance(node, ast.Assign):
                    self.assertEqual(len(node.targets), 1)
                    ast.literal_eval(node.value)

    def test_l4_functions(self):
        special = [node for _, node in properties()]
        for name, node in nodes(ast.FunctionDef):
            self.assertTrue(node.decorator_list == [] or node in special, name)
            self.assertIsNone(node.args.vararg)
            self.assertIsNone(node.args.kwarg)
            self.assertEqual(node.args.posonlyargs + node.args.kwonlyargs, [])
            if node.name.startswith("__"):
                self.assertIn(node.name, DUNDERS)

    def test_l5_classes(self):
        for name, node in nodes(ast.ClassDef):
            self.assertEqual(node.decorator_list, [], name)
            self.assertLessEqual(len(node.bases), 1)
            methods = [item.name for item in node.body if isinstance(item, ast.FunctionDef)]
            self.assertEqual(len(methods), len(set(methods)))
            if "__getitem__" in methods:
                self.assertIn("__iter__", methods)
            if "shows" in methods:
                self.assertIn("__eq__", methods)

    def test_l5_properties(self):
        special = [node.name for _, node in properties()]
        own = [node.name for _, node in nodes(ast.FunctionDef)]
        stored = {node.attr for _, node in nodes(ast.Attribute) if isinstance(node.ctx, ast.Store)}
        for name, node in properties():
            self.assertEqual(ast.unparse(node.args), "self", name)
            # Nothing but a `return` of what is held, or of a copy of it: so nothing changes.
            self.assertRegex(ast.unparse(statements(node)[0]), r"^return (self[a-z_.]+|list\(self[a-z_.]+\))$")
            self.assertEqual(len(statements(node)), 1)
            self.assertEqual(own.count(node.name), 1)
            self.assertNotIn(node.name, METHODS | stored)
        for name, node in nodes(ast.Call):
            self.assertFalse(isinstance(node.func, ast.Attribute) and node.func.attr in special, name)

    def test_l6_with(self):
        contexts = {node.name for _, node in nodes(ast.ClassDef)
                    if {"__enter__", "__exit__"} <= {item.name for item in node.body
                                                     if isinstance(item, ast.FunctionDef)}}
        for name, node in nodes(ast.With):
            for item in node.items:
                self.assertIn(item.context_expr.func.id, contexts, name)
                self.assertIsInstance(item.optional_vars, (ast.Name, type(None)))
        for name, node in nodes(ast.FunctionDef):
            if node.name == "__exit__":
                self.assertEqual(ast.unparse(node.args), "self, kind, value, trace", name)
                for row in statements(node):
                    self.assertRegex(ast.unparse(row), r"^(self[a-z_.]+ = self[a-z_.]+|return False)$", name)

    def test_l6_l7_nodes(self):
        for name, node in nodes(*NO_NODES):
            self.fail(f"{name}: line {node.lineno}: {node}")
        for name, node in nodes(ast.Constant):
            self.assertNotIsInstance(node.value, (float, complex, bytes), name)

    def test_l8_l15_names(self):
        everything = set(dir(builtins)) - {"_"}
        for path in FILES:
            bound, local = bound_names(TREES[path]), local_names(TREES[path])
            self.assertEqual(len(bound), len(set(bound)), path.name)
            self.assertEqual(everything & (set(bound) | local), set(), path.name)
            imported = {alias.name for node in TREES[path].body if isinstance(node, ast.ImportFrom)
                        for alias in node.names}
            classes = {node.name for node in TREES[path].body if isinstance(node, ast.ClassDef)}
            self.assertEqual(local & (imported | classes), set(), path.name)
            used = {node.id for node in ast.walk(TREES[path]) if isinstance(node, ast.Name)}
            self.assertEqual(used - set(bound) - local - ALLOWED_BUILTINS - {"super", "property"}, set(),
                             path.name)
            self.assertEqual(imported - used, set(), path.name)
            for name in set(bound) | local:
                self.assertRegex(name, r"^(_?[A-Za-z][A-Za-z0-9_]*|_)$")

    def test_l10_size(self):
        for path in FILES:
            lines = path.read_text().split("\n")
            self.assertLessEqual(len(lines), 399, path.name)
            self.assertLessEqual(max(len(line) for line in lines), 120, path.name)
        for name, node in nodes(ast.FunctionDef):
            self.assertLessEqual(node.end_lineno - node.lineno + 1, 40, f"{name}: {node.name}")

    def test_l17_words(self):
        for path in FILES:
            skip = docstrings(TREES[path])
            for node in ast.walk(TREES[path]):
                for field in ("id", "attr", "arg", "name"):
                    self.assertNotIn(getattr(node, field, None), BARRED, path.name)
                if isinstance(node, ast.Constant) and isinstance(node.value, str) and node not in skip:
                    self.assertEqual(set(re.findall(r"\w+", node.value)) & BARRED - {"type", "os", "id"}, set())
                    self.assertNotIn("%", node.value)
                    self.assertNotIn("__", node.value)

    def test_l20_is(self):
        for name, node in nodes(ast.Compare):
            for operator, other in zip(node.ops, node.comparators):
                if isinstance(operator, (ast.Is, ast.IsNot)):
                    self.assertIsInstance(other, ast.Constant, name)
                    self.assertIn(other.value, (None, True, False))

    def test_l18_l25_methods_and_attributes(self):
        own = {node.name for _, node in nodes(ast.FunctionDef)}
        stored = {node.attr for _, node in nodes(ast.Attribute) if isinstance(node.ctx, ast.Store)}
        for name, node in nodes(ast.Call):
            if isinstance(node.func, ast.Attribute):
                self.assertIn(node.func.attr, METHODS | own, name)
        for name, node in nodes(ast.Attribute):
            self.assertIn(node.attr, METHODS | own | stored, name)
        for path in FILES:
            for part in TREES[path].body:
                if isinstance(part, ast.ClassDef):
                    methods = {item.name for item in part.body if isinstance(item, ast.FunctionDef)}
                    attributes = {node.attr for node in ast.walk(part)
                                  if isinstance(node, ast.Attribute) and isinstance(node.ctx, ast.Store)}
                    self.assertEqual(methods & attributes, set(), part.name)

    def test_l22_keywords(self):
        for name, node in nodes(ast.Call):
            if node.keywords:
                self.assertLessEqual({item.arg for item in node.keywords}, KEYWORDS[node.func.id], name)

    def test_l24_sets(self):
        # A class has a method `add`, so no set is stored.
        for name, node in nodes(ast.Assign):
            self.assertNotIsInstance(node.value, (ast.Set, ast.SetComp), name)
            self.assertNotRegex(ast.unparse(node.value), r"^set\(", name)
        for name, node in nodes(ast.SetComp):
            rows = [ast.unparse(item) for _, item in nodes(ast.Call) if node in item.args]
            self.assertRegex(" ".join(rows), r"^(sorted|len)\(", name)

    def test_l27_powers(self):
        for name, node in nodes(ast.BinOp):
            if isinstance(node.op, ast.Pow):
                self.assertIsInstance(node.right, ast.Constant, name)

    def test_l28_lengths(self):
        for name, node in nodes(ast.FunctionDef):
            if node.name == "__len__":
                self.assertEqual(ast.unparse(node.body[-1])[:11], "return len(", name)
                self.assertEqual(len(node.body), 1)


if __name__ == "__main__":
    unittest.main()
