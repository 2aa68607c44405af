"""The rules of the language that can be seen file by file."""

import ast
import builtins
import pathlib
import re
import unittest

FOLDER = pathlib.Path(__file__).resolve().parent.parent / "seamfast"
FILES = sorted(FOLDER.glob("*.py"))
TREES = {path.stem: ast.parse(path.read_text()) for path in FILES}
BUILTINS = set(
    "len range enumerate zip min max sum abs sorted reversed int str bool list tuple dict set isinstance ord repr any "
    "all divmod iter next map property staticmethod classmethod super ValueError KeyError NotImplemented TypeError".split()
)
METHODS = set(
    "append clear copy count endswith extend find get index insert isalnum isalpha isdigit islower isspace isupper "
    "items join keys ljust lower lstrip partition pop remove replace reverse rfind rjust rpartition rsplit rstrip "
    "setdefault split splitlines startswith strip update upper values zfill bit_length add discard".split()
)
DUNDERS = set(
    "init eq repr str len enter exit call iter lt le gt ge ne add sub mul neg bool contains getitem setitem".split()
)
LIBRARY = {
    "math": {"gcd", "lcm", "isqrt", "comb", "perm", "factorial"},
    "heapq": {"heappush", "heappop", "heapify", "heapreplace", "heappushpop"},
}
BARRED = set(
    "register mro elements open input law version_info with_traceback add_note attrgetter breakpoint builtins compile "
    "copyright credits delattr dir eval exec exit gc globals help id importlib license locals methodcaller os quit "
    "type vars sys".split()
)
WORDS = re.compile(
    r"\b(typing|typing_extensions|enum|Enum|IntEnum|StrEnum|Flag|IntFlag|Generic|Protocol|ABC|ABCMeta|namedtuple"
    r"|NamedTuple|TypedDict|TYPE_CHECKING|abstractmethod|type)\b|dataclass|overload|contextmanager|_wall|_WallAttr"
)
ATTRIBUTES = set(
    "items keys values pop update append clear extend insert remove reverse setdefault sort args encode decode hex "
    "fromhex format format_map".split()
)
# Methods that `__exit__` calls, whose rows are bound as its own are.
LEFT_BY = {"leave"}
EAGER = {"range", "zip", "enumerate", "reversed", "map"}


def functions(tree):
    return [node for node in ast.walk(tree) if isinstance(node, ast.FunctionDef)]


def parents(tree):
    return {child: node for node in ast.walk(tree) for child in ast.iter_child_nodes(node)}


def imported(tree):
    return {alias.name for node in tree.body if isinstance(node, ast.ImportFrom) for alias in node.names}


def defined(tree):
    names = set()
    for node in tree.body:
        if isinstance(node, (ast.FunctionDef, ast.ClassDef)):
            names.add(node.name)
        elif isinstance(node, ast.Assign):
            names |= {target.id for target in node.targets}
    return names


def local_names(function):
    names = {arg.arg for arg in ast.walk(function.args) if isinstance(arg, ast.arg)}
    return names | {
        node.id for node in ast.walk(function) if isinstance(node, ast.Name) and isinstance(node.ctx, ast.Store)
    }


def settable(class_node):
    """The names of the properties of a class that have a setter."""
    decorators = [one for part in class_node.body if isinstance(part, ast.FunctionDef) for one in part.decorator_list]
    return {one.value.id for one in decorators if isinstance(one, ast.Attribute) and one.attr == "setter"}


def is_doc(node, above):
    return isinstance(above.get(node), ast.Expr)


class LanguageTest(unittest.TestCase):
    def test_files(self):
        for path in FOLDER.iterdir():
            self.assertTrue(path.suffix == ".py" or path.name == "__pycache__", path)
        self.assertLessEqual(len(FILES), 100)
        for path in FILES:
            lines = path.read_text().split("\n")
            self.assertLessEqual(len(lines), 400, path)
            for number, line in enumerate(lines, 1):
                self.assertLessEqual(len(line), 120, (path, number))
                self.assertTrue(all(" " <= sign <= "~" for sign in line), (path, number))
                self.assertEqual(line, line.rstrip(), (path, number))

    def test_sizes(self):
        for stem, tree in TREES.items():
            for node in functions(tree):
                self.assertLessEqual(node.end_lineno - node.lineno + 1, 40, (stem, node.name))
                bare = node.name.startswith("__") or node.name in LEFT_BY
                self.assertTrue(bare or ast.get_docstring(node), (stem, node.name))
            for node in ast.walk(tree):
                if isinstance(node, ast.ClassDef):
                    self.assertTrue(ast.get_docstring(node), (stem, node.name))

    def test_imports(self):
        led = {}
        for stem, tree in TREES.items():
            found = [node for node in ast.walk(tree) if isinstance(node, (ast.Import, ast.ImportFrom))]
            self.assertTrue(all(node in tree.body and isinstance(node, ast.ImportFrom) for node in found), stem)
            led[stem] = set()
            for node in found:
                names = {alias.name for alias in node.names}
                self.assertTrue(all(alias.asname is None for alias in node.names))
                if node.module in LIBRARY:
                    self.assertLessEqual(names, LIBRARY[node.module])
                    continue
                package, _, other = node.module.partition(".")
                self.assertEqual((package, node.level), ("seamfast", 0))
                self.assertLessEqual(names, defined(TREES[other]), (stem, other))
                led[stem].add(other)
            used = {node.id for node in ast.walk(tree) if isinstance(node, ast.Name)}
            self.assertLessEqual(imported(tree), used, stem)
        self.assertEqual(led["__init__"], set())
        while led:
            free = [stem for stem, others in led.items() if not others & set(led)]
            self.assertTrue(free, f"files import from each other: {sorted(led)}")
            for stem in free:
                del led[stem]

    def test_module_level(self):
        for stem, tree in TREES.items():
            bound = list(imported(tree)) + list(defined(tree))
            self.assertEqual(len(bound), len(set(bound)), stem)
            for number, node in enumerate(tree.body):
                plain = isinstance(node, (ast.ImportFrom, ast.FunctionDef, ast.ClassDef))
                if isinstance(node, ast.Assign):
                    plain = len(node.targets) == 1 and isinstance(node.value, (ast.Constant, ast.Tuple, ast.Dict))
                self.assertTrue(plain or (number == 0 and isinstance(node, ast.Expr)), (stem, node.lineno))

    def test_statements(self):
        barred = (
            ast.Global, ast.AsyncFunctionDef, ast.AsyncFor, ast.AsyncWith, ast.Await, ast.GeneratorExp, ast.Div,
            ast.Lambda, ast.MatMult, ast.NamedExpr,
        )
        for stem, tree in TREES.items():
            above = parents(tree)
            for node in ast.walk(tree):
                if isinstance(node, ast.Lambda):
                    self.assertIsInstance(above[node], (ast.keyword, ast.Call), (stem, node.lineno))
                else:
                    self.assertNotIsInstance(node, barred, (stem, getattr(node, "lineno", 0)))
                if isinstance(node, ast.Compare):
                    for sign, other in zip(node.ops, node.comparators):
                        if isinstance(sign, (ast.Is, ast.IsNot)):
                            self.assertIn(getattr(other, "value", 0), (None, True, False), (stem, node.lineno))
                if isinstance(node, ast.Constant):
                    self.assertNotIsInstance(node.value, (float, complex, bytes))
                    if isinstance(node.value, str) and not is_doc(node, above):
                        self.assertNotIn("%", node.value, stem)
                if isinstance(node, ast.ExceptHandler):
                    self.assertIn(getattr(node.type, "id", None), defined(TREES["errors"]), stem)
                if isinstance(node, ast.Raise) and node.exc is not None:
                    self.assertIsInstance(node.exc, ast.Call, (stem, node.lineno))

    def test_functions(self):
        for stem, tree in TREES.items():
            for node in ast.walk(tree):
                if isinstance(node, ast.ClassDef):
                    for part in node.body:
                        self.assertIsInstance(part, (ast.FunctionDef, ast.Assign, ast.Expr), (stem, node.name))
                    methods = {part for part in node.body if isinstance(part, ast.FunctionDef)}
                    names = {part.name for part in methods}
                    self.assertTrue("__getitem__" not in names or "__iter__" in names, (stem, node.name))
                    for part in methods:
                        self.check_method(stem, part)
            for node in tree.body:
                if isinstance(node, ast.FunctionDef):
                    self.assertEqual(node.decorator_list, [], (stem, node.name))

    def test_no_name_is_a_method_and_an_attribute(self):
        methods = set()
        stored = set()
        for tree in TREES.values():
            for node in ast.walk(tree):
                if isinstance(node, ast.ClassDef):
                    methods |= {part.name for part in node.body if isinstance(part, ast.FunctionDef)} - settable(node)
                if isinstance(node, ast.Attribute) and isinstance(node.ctx, ast.Store):
                    stored.add(node.attr)
        self.assertFalse(methods & stored)

    def check_method(self, stem, node):
        if node.name.startswith("__"):
            self.assertIn(node.name.strip("_"), DUNDERS, stem)
        for one in node.decorator_list:
            word = one.attr if isinstance(one, ast.Attribute) else one.id
            self.assertIn(word, ("property", "setter", "staticmethod", "classmethod"), (stem, node.name))
        if node.name == "__len__":
            self.assertTrue(ast.unparse(node.body[-1]).startswith("return len("), stem)
        if node.name == "__iter__":
            self.assertRegex(ast.unparse(node.body[-1]), r"^return iter\(self\.\w+\)$")
            self.assertEqual(len(node.body), 1)

    def test_blocks_are_left_by_plain_rows(self):
        """In `__exit__` and what it calls, names are taken from the object, and attributes are given plain ones."""
        calls = set()
        for stem, tree in TREES.items():
            for node in functions(tree):
                if node.name != "__exit__" and node.name not in LEFT_BY:
                    continue
                taken = []
                for row in node.body:
                    text = ast.unparse(row)
                    if isinstance(row, ast.Expr):
                        self.assertRegex(text, r"^self\.\w+\(\)$")
                        calls.add(text[5:-2])
                    elif isinstance(row.targets[0], ast.Name):
                        self.assertRegex(text, r"^\w+ = self\.\w+$", stem)
                        taken.append(row.targets[0].id)
                    else:
                        self.assertRegex(text, r"^\w+\.\w+ = \w+\.\w+$", stem)
                self.assertLessEqual(len(taken), 1)
        self.assertEqual(calls, LEFT_BY)

    def test_names(self):
        own = set()
        stored = set()
        for tree in TREES.values():
            own |= {node.name for node in functions(tree)} | defined(tree)
            for node in ast.walk(tree):
                if isinstance(node, ast.Attribute) and isinstance(node.ctx, ast.Store):
                    stored.add(node.attr)
        values = {"WAYS", "setter"}
        self.assertFalse(stored & ATTRIBUTES)
        for stem, tree in TREES.items():
            top = imported(tree) | {node.name for node in tree.body if isinstance(node, ast.ClassDef)}
            for node in functions(tree):
                names = local_names(node)
                self.assertFalse(names & top, (stem, node.name))
                self.assertFalse(names & (defined(tree) - top), (stem, node.name))
                self.assertFalse(names & set(dir(builtins)), (stem, node.name))
                self.assertFalse((names | {node.name}) & BARRED, (stem, node.name))
                for name in names:
                    self.assertRegex(name, r"^(_?[A-Za-z][A-Za-z0-9_]*|_)$")
            for node in ast.walk(tree):
                if isinstance(node, ast.Attribute):
                    self.assertNotIn(node.attr, ("open", "input", "register", "law", "mro", "elements"))
                    self.assertIn(node.attr, stored | own | METHODS | values, (stem, node.lineno))
                if isinstance(node, ast.Name) and isinstance(node.ctx, ast.Load) and node.id in dir(builtins):
                    self.assertIn(node.id, BUILTINS, (stem, node.lineno))

    def test_words(self):
        for path in FILES:
            text = path.read_text()
            self.assertIsNone(re.search(r"\(type\)|Meta|metaclass=", text), path)
            tree = TREES[path.stem]
            docs = {
                node.value.value for node in ast.walk(tree)
                if isinstance(node, ast.Expr) and isinstance(node.value, ast.Constant)
            }
            for doc in docs:
                text = text.replace(doc, "")
            code = "\n".join([line.partition("#")[0] for line in text.split("\n")])
            self.assertIsNone(WORDS.search(code), path)

    def test_iterated_at_once(self):
        takers = {"list", "tuple", "sorted", "sum", "any", "all", "enumerate", "zip", "min", "max", "reversed"}
        for stem, tree in TREES.items():
            above = parents(tree)
            for node in ast.walk(tree):
                if not isinstance(node, ast.Call):
                    continue
                name = getattr(node.func, "id", None)
                word = getattr(node.func, "attr", None)
                if name in EAGER or word in ("items", "keys", "values"):
                    outer = above[node]
                    good = isinstance(outer, (ast.For, ast.comprehension)) and outer.iter is node
                    if isinstance(outer, ast.Call):
                        good = getattr(outer.func, "id", None) in takers
                    self.assertTrue(good, (stem, node.lineno))
                if name == "reversed":
                    inner = node.args[0]
                    self.assertTrue(isinstance(inner, ast.Call) and inner.func.id in ("range", "list", "tuple", "sorted"))
                if name == "set":
                    self.assertIn(above[node].func.id, ("sorted", "len"), (stem, node.lineno))

    def test_no_set_is_kept(self):
        for stem, tree in TREES.items():
            for node in ast.walk(tree):
                self.assertNotIsInstance(node, (ast.Set, ast.SetComp), (stem, getattr(node, "lineno", 0)))

    def test_generators(self):
        told = set()
        names = []
        for tree in TREES.values():
            for node in functions(tree):
                names.append(node.name)
                if any(isinstance(part, (ast.Yield, ast.YieldFrom)) for part in ast.walk(node)):
                    told.add(node.name)
        for name in told:
            self.assertEqual(names.count(name), 1)
        for stem, tree in TREES.items():
            above = parents(tree)
            for node in ast.walk(tree):
                if isinstance(node, ast.Name) and node.id in told:
                    call = above[node]
                    self.assertTrue(isinstance(call, ast.Call) and call.func is node, (stem, node.lineno))
                    outer = above[call]
                    good = isinstance(outer, (ast.YieldFrom, ast.For, ast.comprehension))
                    if isinstance(outer, ast.Call):
                        good = outer.func.id in ("list", "tuple")
                    self.assertTrue(good, (stem, node.lineno))

    def test_loops_do_not_change_what_they_go_over(self):
        changers = {"append", "extend", "pop", "clear", "insert", "remove", "reverse", "setdefault", "update"}
        for stem, tree in TREES.items():
            for loop in ast.walk(tree):
                if not isinstance(loop, ast.For):
                    continue
                gone_over = {ast.unparse(node) for node in ast.walk(loop.iter) if isinstance(node, (ast.Name, ast.Attribute))}
                for node in [part for line in loop.body for part in ast.walk(line)]:
                    if isinstance(node, ast.Call) and getattr(node.func, "attr", None) in changers:
                        self.assertNotIn(ast.unparse(node.func.value), gone_over, (stem, node.lineno))
                    if isinstance(node, ast.Subscript) and not isinstance(node.ctx, ast.Load):
                        self.assertNotIn(ast.unparse(node.value), gone_over, (stem, node.lineno))
