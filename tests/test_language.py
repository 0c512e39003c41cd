"""The rules of LANGUAGE.md that a program can see, over all files of the package."""

import ast
import re
import unittest
import warnings
from pathlib import Path

ROOT = Path(__file__).resolve().parent.parent
PACKAGE = ROOT / "twowaycuts"
FILES = [path for path in sorted(PACKAGE.rglob("*")) if path.is_file() and "__pycache__" not in path.parts]

LIBRARY = {
    "heapq": {"heappush", "heappop", "heapify", "heapreplace", "heappushpop"},
    "math": {"gcd", "lcm", "isqrt", "comb", "perm", "factorial"},
    "itertools": {"chain", "accumulate", "pairwise", "islice", "zip_longest"},
    "collections": {"defaultdict", "deque"},
}
BUILTINS = set("""len range enumerate zip min max sum abs sorted reversed int str bool bytes list tuple dict set
    frozenset isinstance ord repr any all divmod pow getattr hasattr setattr Exception ValueError TypeError KeyError
    IndexError LookupError ZeroDivisionError ArithmeticError OverflowError RuntimeError NotImplementedError
    AttributeError StopIteration NotImplemented iter next type property classmethod staticmethod""".split())
ALL_BUILTINS = set(dir(__builtins__) if not isinstance(__builtins__, dict) else __builtins__)
METHODS = set("""append clear copy count endswith extend find get index insert isalnum isalpha isdigit islower isspace
    isupper items join keys ljust lower lstrip partition pop remove replace reverse rfind rjust rpartition rsplit
    rstrip setdefault split splitlines startswith strip update upper values zfill bit_length title capitalize swapcase
    casefold center expandtabs removeprefix removesuffix rindex isascii isdecimal isnumeric istitle isidentifier
    isprintable add discard""".split())
DUNDERS = set("""init eq repr str len enter exit call iter lt le gt ge ne add sub mul floordiv mod pow and or xor lshift
    rshift radd rsub rmul rfloordiv rmod rand ror rxor rlshift rrshift iadd isub imul ifloordiv imod iand ior ixor
    ilshift irshift neg pos invert abs bool contains getitem setitem""".split())
NOWHERE = set("register mro elements open input law version_info with_traceback add_note".split())
NO_NAMES = set("""attrgetter breakpoint builtins compile copyright credits delattr dir eval exec exit gc globals help id
    importlib license locals methodcaller os quit super vars sys _cold _tuplegetter _outside _record _written_out
    _member_names""".split())
NO_WORDS = re.compile(r"\b(type|typing|typing_extensions|enum|Enum|IntEnum|StrEnum|Flag|IntFlag|Generic|Protocol|ABC|"
                      r"ABCMeta|namedtuple|NamedTuple|TypedDict|TYPE_CHECKING|abstractmethod)\b")
NO_STARTS = ("_wall", "_pe_", "_dcw_", "_enum_", "_cm_", "_twin_re_", "_lay_", "_law_", "_stub_", "_sre", "_WallAttr")
REFUSED = (ast.GeneratorExp, ast.Global, ast.AsyncFunctionDef, ast.Await, ast.Set, ast.Div, ast.MatMult, ast.Starred,
           ast.With, ast.Match, ast.NamedExpr, ast.Nonlocal, ast.Lambda, ast.Delete, ast.AnnAssign)


def module_name(path):
    parts = list(path.relative_to(ROOT).with_suffix("").parts)
    return ".".join(parts[:-1] if parts[-1] == "__init__" else parts)


def functions(tree):
    return [node for node in ast.walk(tree) if isinstance(node, ast.FunctionDef)]


def docstrings(tree):
    """The constants that are docstrings."""
    found = []
    for node in ast.walk(tree):
        if isinstance(node, (ast.Module, ast.ClassDef, ast.FunctionDef)) and ast.get_docstring(node) is not None:
            found.append(node.body[0].value)
    return found


def bound_names(tree):
    """All names that a file gives: by assignment, as parameters, functions, classes and imports."""
    found = []
    for node in ast.walk(tree):
        if isinstance(node, ast.Name) and isinstance(node.ctx, ast.Store):
            found.append(node.id)
        elif isinstance(node, ast.arg):
            found.append(node.arg)
        elif isinstance(node, (ast.FunctionDef, ast.ClassDef)):
            found.append(node.name)
        elif isinstance(node, ast.alias):
            found.append(node.name)
    return found


def last_name(node):
    """The name, or the attribute, of which something is an item."""
    while isinstance(node, ast.Subscript):
        node = node.value
    return ast.unparse(node).split(".")[-1]


def other_names(function):
    """The dict from each name of a function to the names that it is given, straight, in a choice or as an item."""
    found = {}
    for node in ast.walk(function):
        if isinstance(node, ast.Assign):
            pairs = [(target, node.value) for target in node.targets]
            for target, value in list(pairs):
                if isinstance(target, ast.Tuple) and isinstance(value, ast.Tuple):
                    pairs.extend(zip(target.elts, value.elts))
            for target, value in pairs:
                if isinstance(target, ast.Name) and not isinstance(value, (ast.Call, ast.ListComp, ast.BinOp)):
                    given = {part.id for part in ast.walk(value) if isinstance(part, ast.Name)}
                    given |= {part.attr for part in ast.walk(value) if isinstance(part, ast.Attribute)}
                    found.setdefault(target.id, set()).update(given)
    return found


class Language(unittest.TestCase):
    def setUp(self):
        self.trees = {}
        for path in FILES:
            with warnings.catch_warnings():
                warnings.simplefilter("error")
                self.trees[path] = ast.parse(path.read_text(encoding="ascii"))

    def test_files(self):
        self.assertLessEqual(len(FILES), 100)
        for path in FILES:
            self.assertRegex(path.name, r"^[a-z0-9_]+\.py$")
            self.assertTrue((path.parent / "__init__.py").is_file(), path)
            self.assertFalse(path.with_suffix("").is_dir(), path)
            self.assertNotIn(path.stem, ALL_BUILTINS | NOWHERE | {"test", "tests", "testing", "site", "conftest"})

    def test_lines(self):
        for path in FILES:
            text = path.read_text(encoding="ascii")
            self.assertRegex(text, r"\A[\n -~]*\Z", path)
            rows = text.split("\n")
            self.assertLessEqual(len(rows), 399, path)
            self.assertLessEqual(max(len(row) for row in rows), 120, path)

    def test_functions_are_small(self):
        for path, tree in self.trees.items():
            for node in functions(tree):
                self.assertLessEqual(node.end_lineno - node.lineno + 1, 40, (path, node.name))

    def test_imports(self):
        known = {module_name(path): path for path in FILES}
        reached = {}
        for path, tree in self.trees.items():
            self.assertFalse([node for node in ast.walk(tree) if isinstance(node, ast.Import)], path)
            for node in ast.walk(tree):
                if isinstance(node, ast.ImportFrom):
                    self.assertIn(node, tree.body)
                    self.assertEqual(node.level, 0)
                    names = [alias.name for alias in node.names]
                    self.assertTrue(all(alias.asname is None for alias in node.names), path)
                    if node.module in LIBRARY:
                        self.assertLessEqual(set(names), LIBRARY[node.module], path)
                    else:
                        self.assertIn(node.module, known, path)
                        reached.setdefault(module_name(path), set()).add(node.module)
                        defined = bound_names(ast.Module(self.defining(known[node.module]), []))
                        self.assertLessEqual(set(names), set(defined), path)
        for start in reached:
            seen, queue = set(), list(reached[start])
            while queue:
                one = queue.pop()
                self.assertNotEqual(one, start)
                if one not in seen:
                    seen.add(one)
                    queue.extend(reached.get(one, ()))

    def defining(self, path):
        return [node for node in self.trees[path].body if not isinstance(node, ast.ImportFrom)]

    def test_module_level(self):
        for path, tree in self.trees.items():
            self.assertIsNotNone(ast.get_docstring(tree), path)
            names = []
            for node in tree.body[1:]:
                self.assertIsInstance(node, (ast.ImportFrom, ast.FunctionDef, ast.ClassDef, ast.Assign))
                if isinstance(node, ast.ImportFrom):
                    names.extend(alias.name for alias in node.names)
                elif isinstance(node, ast.Assign):
                    self.assertIsInstance(node.targets[0], ast.Name)
                    names.append(node.targets[0].id)
                else:
                    names.append(node.name)
            self.assertEqual(len(names), len(set(names)), path)

    def test_names(self):
        for path, tree in self.trees.items():
            outer = {alias.name for node in tree.body if isinstance(node, ast.ImportFrom) for alias in node.names}
            outer |= {node.name for node in tree.body if isinstance(node, ast.ClassDef)}
            methods = {method.name for node in tree.body if isinstance(node, ast.ClassDef) for method in node.body
                       if isinstance(method, ast.FunctionDef)}
            for name in set(bound_names(tree)):
                if name in methods and name.startswith("__"):
                    self.assertIn(name.strip("_"), DUNDERS, path)
                    continue
                self.assertRegex(name, r"^(_|_?[A-Za-z][A-Za-z0-9_]*)$", path)
                self.assertFalse(name in NOWHERE | NO_NAMES or name.startswith(NO_STARTS), (path, name))
                self.assertNotIn(name, ALL_BUILTINS, path)
            inner = [node.id for node in ast.walk(tree) if isinstance(node, ast.Name) and isinstance(node.ctx, ast.Store)]
            inner += [node.arg for node in ast.walk(tree) if isinstance(node, ast.arg)]
            self.assertFalse(outer & set(inner), path)
            for node in ast.walk(tree):
                if isinstance(node, ast.Name) and isinstance(node.ctx, ast.Load):
                    self.assertNotEqual(node.id, "_", path)
                    self.assertTrue(node.id not in ALL_BUILTINS or node.id in BUILTINS, (path, node.id))
                if isinstance(node, ast.Attribute):
                    self.assertNotIn(node.attr, NOWHERE | {"format", "format_map", "args"}, path)

    def test_words(self):
        for path, tree in self.trees.items():
            skipped = docstrings(tree)
            for node in ast.walk(tree):
                if isinstance(node, ast.Constant) and isinstance(node.value, str) and node not in skipped:
                    self.assertNotRegex(node.value, NO_WORDS, path)
                    self.assertNotIn("%", node.value, path)
                    self.assertFalse(node.value.startswith("__") or node.value.endswith(("._", ".__")), path)
                self.assertFalse(isinstance(node, ast.Constant) and isinstance(node.value, (float, complex)), path)
                if isinstance(node, ast.Name):
                    self.assertNotRegex(node.id, NO_WORDS, path)
            text = path.read_text(encoding="ascii")
            self.assertNotRegex(text, r"\(type\)|Meta|metaclass=|_wall|_WallAttr|dataclass|overload|contextmanager", path)
            self.assertNotRegex(text, r"\\[^nt\\\"']", path)

    def test_statements_and_expressions(self):
        # More is refused than LANGUAGE.md refuses: the package does without it.
        for path, tree in self.trees.items():
            for node in ast.walk(tree):
                self.assertNotIsInstance(node, REFUSED, (path, getattr(node, "lineno", 0)))
                if isinstance(node, ast.BinOp) and isinstance(node.op, ast.Pow):
                    self.assertTrue(isinstance(node.right, ast.Constant) and 0 <= node.right.value <= 64, path)
                if isinstance(node, ast.Compare):
                    for sign, right in zip(node.ops, node.comparators):
                        if isinstance(sign, (ast.Is, ast.IsNot)):
                            self.assertIsInstance(right, ast.Constant, path)
                if isinstance(node, ast.comprehension):
                    self.assertFalse(node.is_async)
                if isinstance(node, ast.FunctionDef):
                    self.assertFalse(node.args.posonlyargs or node.args.vararg or node.args.kwarg, path)

    def test_tries(self):
        # Only own errors are caught, and a `finally` only puts names back into attributes.
        own = {node.name for path, tree in self.trees.items() if path.name == "errors.py" for node in tree.body
               if isinstance(node, ast.ClassDef)}
        for path, tree in self.trees.items():
            for node in ast.walk(tree):
                if isinstance(node, ast.Try):
                    names = [one.name for one in node.handlers if one.name]
                    self.assertEqual(len(names), len(set(names)), path)
                    for one in node.handlers:
                        self.assertIn(ast.unparse(one.type), own)
                    for row in node.finalbody:
                        self.assertRegex(ast.unparse(row), r"^self\.\w+ = \w+$")
                elif isinstance(node, ast.FunctionDef) and node.name == "__exit__":
                    for row in node.body:
                        self.assertRegex(ast.unparse(row), r"^(\w+|self|desk)(\.\w+)? = self\.\w+(\.\w+)?$")

    def test_classes(self):
        for path, tree in self.trees.items():
            for node in ast.walk(tree):
                if isinstance(node, ast.ClassDef):
                    self.assertIn(node, tree.body)
                    self.assertFalse(node.decorator_list or node.keywords, path)
                    names = [part.name for part in node.body if isinstance(part, ast.FunctionDef)]
                    self.assertEqual(len(names), len(set(names)), path)
                    self.assertFalse("__getitem__" in names and "__iter__" not in names, path)
            for node in functions(tree):
                for sign in node.decorator_list:
                    self.assertIn(ast.unparse(sign), {"property", "classmethod", "staticmethod"}, path)

    def test_attributes(self):
        # No property is assigned, no attribute is a method, and what is read is assigned somewhere.
        nodes = [node for tree in self.trees.values() for node in ast.walk(tree)]
        owners = [node for node in nodes if isinstance(node, ast.ClassDef)]
        methods = [part for owner in owners for part in owner.body if isinstance(part, ast.FunctionDef)]
        properties = {part.name for part in methods if [sign for sign in part.decorator_list
                                                        if ast.unparse(sign) == "property"]}
        stored = {node.attr for node in nodes if isinstance(node, ast.Attribute) and isinstance(node.ctx, ast.Store)}
        plain = {part.name for part in methods} - properties
        self.assertFalse(stored & (properties | plain))
        self.assertFalse(properties & plain)
        self.assertLessEqual((stored | properties) & METHODS, {"index"})
        for node in nodes:
            if isinstance(node, ast.Attribute) and isinstance(node.ctx, ast.Load):
                self.assertIn(node.attr, stored | properties | plain | METHODS)

    def test_generators(self):
        nodes = [node for tree in self.trees.values() for node in functions(tree)]
        names = [node.name for node in nodes]
        for node in nodes:
            if any(isinstance(part, (ast.Yield, ast.YieldFrom)) for part in ast.walk(node)):
                self.assertEqual(names.count(node.name), 1, node.name)
                self.assertNotIn(node.name, METHODS)
                for tree in self.trees.values():
                    self.check_generator(tree, node.name)

    def check_generator(self, tree, name):
        """A generator is called, and what it yields is taken at once."""
        places = []
        for node in ast.walk(tree):
            if isinstance(node, (ast.For, ast.comprehension)):
                places.append(node.iter)
            elif isinstance(node, ast.YieldFrom):
                places.append(node.value)
            elif isinstance(node, ast.Call) and isinstance(node.func, ast.Name):
                if node.func.id in {"list", "tuple", "sorted", "sum", "any", "all", "enumerate", "zip"}:
                    places.extend(node.args[:1])
        calls = [node for node in ast.walk(tree) if isinstance(node, ast.Call) and isinstance(node.func, ast.Name)
                 and node.func.id == name]
        for call in calls:
            self.assertIn(call, places, name)
        uses = [node for node in ast.walk(tree) if isinstance(node, ast.Name) and node.id == name]
        self.assertEqual(len(uses), len(calls), name)

    def test_loops(self):
        # What a loop goes over is not changed in it, by no name that stands for it.
        for path, tree in self.trees.items():
            for node in functions(tree):
                for loop in ast.walk(node):
                    if isinstance(loop, ast.For):
                        self.check_loop(path, loop, {})
                        if not isinstance(loop.iter, ast.Call) or ast.unparse(loop.iter.func) != "list":
                            self.check_loop(path, loop, other_names(node))

    def check_loop(self, path, loop, others):
        names = {node.id for node in ast.walk(loop.iter) if isinstance(node, ast.Name)}
        names |= {node.attr for node in ast.walk(loop.iter) if isinstance(node, ast.Attribute)}
        for name in list(names):
            names |= others.get(name, set())
        for row in loop.body:
            for node in ast.walk(row):
                if isinstance(node, ast.Call) and isinstance(node.func, ast.Attribute):
                    if node.func.attr in {"append", "extend", "pop", "insert", "remove", "clear", "update", "reverse"}:
                        self.assertNotIn(last_name(node.func.value), names, (path, loop.lineno))
                elif isinstance(node, ast.Subscript) and isinstance(node.ctx, ast.Store):
                    self.assertNotIn(last_name(node.value), names, (path, loop.lineno))

    def test_sets(self):
        for path, tree in self.trees.items():
            places = []
            for node in ast.walk(tree):
                if isinstance(node, ast.Call) and isinstance(node.func, ast.Name):
                    if node.func.id in {"sorted", "len"} and not node.keywords:
                        places.extend(node.args)
            for node in ast.walk(tree):
                built = isinstance(node, ast.Call) and isinstance(node.func, ast.Name) and node.func.id == "set"
                if built or isinstance(node, ast.SetComp):
                    self.assertIn(node, places, path)

    def test_calls(self):
        own = {node.name for tree in self.trees.values() for node in functions(tree)}
        for path, tree in self.trees.items():
            for node in ast.walk(tree):
                if isinstance(node, ast.Call) and isinstance(node.func, ast.Attribute):
                    self.assertTrue(node.func.attr in METHODS or node.func.attr in own, (path, node.func.attr))
                    if node.func.attr not in own:
                        self.assertFalse(node.keywords, path)
                if isinstance(node, ast.Call):
                    names = [word.arg for word in node.keywords]
                    if isinstance(node.func, ast.Name) and node.func.id in ALL_BUILTINS:
                        self.assertLessEqual(set(names), {"key", "reverse", "default", "start", "strict"}, path)
                    if isinstance(node.func, ast.Name) and node.func.id in {"range", "zip", "enumerate", "reversed"}:
                        self.assertTrue(self.iterated(tree, node), (path, node.lineno))

    def iterated(self, tree, call):
        """Whether a loop, a comprehension or a builtin goes over what is called at once."""
        for node in ast.walk(tree):
            if isinstance(node, (ast.For, ast.comprehension)) and node.iter is call:
                return True
            if isinstance(node, ast.Call) and isinstance(node.func, ast.Name) and node.args[:1] == [call]:
                return node.func.id in {"list", "tuple", "dict", "sorted", "sum", "any", "all", "enumerate", "zip"}
        return False


if __name__ == "__main__":
    unittest.main()
