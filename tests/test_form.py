"""Checks of the rules of the language subset that a syntax tree can show.

The numbers L1 to L28 are those of the rules.
"""

import ast
import builtins
import re
import unittest
from pathlib import Path

PACKAGE = Path(__file__).resolve().parent.parent / "wheelsky"
LIBRARY = {
    "heapq": {"heappush", "heappop", "heapify", "heapreplace", "heappushpop"},
    "math": {"gcd", "lcm", "isqrt", "comb", "perm", "factorial"},
    "itertools": {"product", "combinations", "permutations", "chain", "accumulate", "pairwise", "islice", "zip_longest"},
    "collections": {"defaultdict", "deque"},
}
# A doctest binds the name _ among the builtins.
ALL_BUILTINS = set(vars(builtins)) - {"_"}
BUILTINS = set(
    "len range enumerate zip min max sum abs sorted reversed int str bool list tuple dict set isinstance ord repr any"
    " all divmod map iter next type super ValueError IndexError LookupError KeyError ZeroDivisionError TypeError"
    " NotImplemented property staticmethod classmethod True False None".split()
)
DUNDERS = set(
    "init eq repr str len enter exit call iter lt le gt ge ne add sub mul floordiv mod pow and or xor neg pos invert abs"
    " bool contains getitem setitem radd rsub rmul iadd isub imul".split()
)
BANNED_NODES = (
    ast.AsyncFunctionDef, ast.AsyncFor, ast.AsyncWith, ast.Await, ast.Global, ast.Div, ast.MatMult, ast.TypeIgnore,
    ast.GeneratorExp, ast.AnnAssign, ast.Import,
)
BANNED_NAMES = set(
    "register mro elements open input law version_info with_traceback add_note attrgetter breakpoint builtins compile"
    " copyright credits delattr dir eval exec exit gc getattr globals hasattr help id importlib license locals"
    " methodcaller os quit setattr vars sys format".split()
)
BANNED_WORDS = set(
    "typing typing_extensions enum Enum IntEnum StrEnum Flag IntFlag Generic Protocol ABC ABCMeta namedtuple NamedTuple"
    " TypedDict TYPE_CHECKING abstractmethod".split()
)
VALUE_METHODS = set(
    "items keys values pop update append clear extend insert remove reverse setdefault sort args encode decode hex"
    " fromhex format as_integer_ratio bit_count conjugate from_bytes is_integer to_bytes numerator denominator real"
    " imag bit_length difference intersection union isdisjoint issubset issuperset popitem".split()
)
VALUE_CALLS = set(
    "append clear copy count endswith extend find get index insert isalnum isalpha isdigit islower isspace isupper items"
    " join keys ljust lower lstrip partition pop remove replace reverse rfind rjust rpartition rsplit rstrip setdefault"
    " split splitlines startswith strip update upper values zfill bit_length removeprefix removesuffix".split()
)


def sources():
    """Return the names, the texts and the trees of the files."""
    rows = []
    for path in sorted(PACKAGE.glob("*.py")):
        text = path.read_text(encoding="utf-8")
        rows.append((path.stem, text, ast.parse(text)))
    return rows


def bound_names(tree):
    """Return each name that the tree binds, with its line."""
    for node in ast.walk(tree):
        if isinstance(node, ast.Name) and isinstance(node.ctx, ast.Store):
            yield node.id, node.lineno
        elif isinstance(node, ast.arg):
            yield node.arg, node.lineno
        elif isinstance(node, (ast.FunctionDef, ast.ClassDef)):
            yield node.name, node.lineno


def top_names(tree):
    """Return the names that stand at module level: imports, definitions and values."""
    names = []
    for node in tree.body:
        if isinstance(node, ast.ImportFrom):
            names += [alias.name for alias in node.names]
        elif isinstance(node, (ast.FunctionDef, ast.ClassDef)):
            names.append(node.name)
        elif isinstance(node, ast.Assign):
            names.append(node.targets[0].id)
    return names


class FunctionsAsWords(ast.NodeTransformer):
    """Puts a string in place of each name."""

    def visit_Name(self, node):
        return ast.Constant(node.id)


class FormTest(unittest.TestCase):
    def each(self, check):
        for name, text, tree in sources():
            with self.subTest(name):
                check(name, text, tree)

    def test_files(self):
        """L1 L14."""
        for path in PACKAGE.iterdir():
            if path.name != "__pycache__":
                self.assertRegex(path.name, r"\A[a-z0-9_]+\.py\Z")

    def test_sizes_and_characters(self):
        """L10 L14."""
        def check(name, text, tree):
            self.assertLessEqual(len(text.splitlines()), 399)
            self.assertLessEqual({sign for sign in text}, {chr(code) for code in range(32, 127)} | {"\n"})
            self.assertLessEqual(max(len(line) for line in text.splitlines()), 120)
            for node in ast.walk(tree):
                if isinstance(node, ast.FunctionDef):
                    self.assertLessEqual(node.end_lineno - node.lineno + 1, 40, node.name)
        self.each(check)

    def test_imports(self):
        """L2 L16: from the file that defines the name, without a circle."""
        defined = {name: set(top_names(tree)) for name, _, tree in sources()}
        needs = {}
        for name, _, tree in sources():
            needs[name] = set()
            for node in ast.walk(tree):
                if not isinstance(node, ast.ImportFrom):
                    continue
                self.assertIn(node, tree.body)
                self.assertEqual(node.level, 0)
                self.assertEqual([alias.asname for alias in node.names], [None] * len(node.names))
                names = {alias.name for alias in node.names}
                if node.module in LIBRARY:
                    self.assertLessEqual(names, LIBRARY[node.module])
                    continue
                top, _, source = node.module.partition(".")
                self.assertEqual(top, "wheelsky")
                needs[name].add(source)
                imports = {a.name for n in self.tree_of(source).body if isinstance(n, ast.ImportFrom) for a in n.names}
                self.assertLessEqual(names, defined[source] - imports)
        while needs:
            free = [name for name in needs if not needs[name] & set(needs)]
            self.assertTrue(free, f"a circle among {sorted(needs)}")
            for name in free:
                del needs[name]

    def test_imported_names_are_used(self):
        def check(name, text, tree):
            imported = {a.name for node in tree.body if isinstance(node, ast.ImportFrom) for a in node.names}
            self.assertLessEqual(imported, {node.id for node in ast.walk(tree) if isinstance(node, ast.Name)})
        self.each(check)

    def tree_of(self, name):
        return [tree for known, _, tree in sources() if known == name][0]

    def test_module_level(self):
        """L3 L15."""
        def check(name, text, tree):
            for at, node in enumerate(tree.body):
                if at == 0 and isinstance(node, ast.Expr):
                    self.assertIsInstance(node.value.value, str)
                    continue
                self.assertIsInstance(node, (ast.ImportFrom, ast.FunctionDef, ast.ClassDef, ast.Assign))
                if isinstance(node, ast.Assign):
                    self.assertEqual([type(target) for target in node.targets], [ast.Name])
                    above = {row.name for row in tree.body[:at] if isinstance(row, ast.FunctionDef)}
                    self.assertLessEqual({row.id for row in ast.walk(node.value) if isinstance(row, ast.Name)}, above)
                    # A function that is defined above may stand in a table.
                    ast.literal_eval(FunctionsAsWords().visit(node.value))
            names = top_names(tree)
            self.assertEqual(len(names), len(set(names)))
        self.each(check)

    def test_nodes(self):
        """L2 L6 L7 L21: statements and expressions that are not used."""
        def check(name, text, tree):
            for node in ast.walk(tree):
                self.assertNotIsInstance(node, BANNED_NODES, getattr(node, "lineno", None))
                if isinstance(node, ast.Constant):
                    self.assertNotIsInstance(node.value, (float, complex, bytes), getattr(node, "lineno", None))
                    if isinstance(node.value, str):
                        self.assertNotIn(chr(37), node.value)
                if isinstance(node, ast.ExceptHandler):
                    self.assertIsNotNone(node.type)
                if isinstance(node, ast.BinOp) and isinstance(node.op, ast.Pow):
                    self.assertIsInstance(node.right, ast.Constant)
        self.each(check)

    def test_classes(self):
        """L4 L5 L26."""
        def check(name, text, tree):
            for node in ast.walk(tree):
                if isinstance(node, ast.FunctionDef):
                    self.assertLessEqual({ast.unparse(d) for d in node.decorator_list},
                                         {"property", "staticmethod", "classmethod"})
                    if node.name.startswith("__"):
                        self.assertIn(node.name.strip("_"), DUNDERS)
                if isinstance(node, ast.ClassDef):
                    self.assertEqual(node.decorator_list, [])
                    self.assertIn(node, tree.body)
                    methods = [row.name for row in node.body if isinstance(row, ast.FunctionDef)]
                    self.assertEqual(len(methods), len(set(methods)))
                    self.assertEqual(set(methods) & VALUE_METHODS, set())
                if isinstance(node, ast.Attribute) and isinstance(node.ctx, ast.Store):
                    self.assertNotIn(node.attr, VALUE_METHODS)
        self.each(check)

    def test_methods_called(self):
        """L25: those of the package, and those of builtin values that are allowed."""
        own = {row.name for _, _, tree in sources() for node in ast.walk(tree) if isinstance(node, ast.ClassDef)
               for row in node.body if isinstance(row, ast.FunctionDef)}

        def check(name, text, tree):
            for node in ast.walk(tree):
                if isinstance(node, ast.Call) and isinstance(node.func, ast.Attribute):
                    self.assertIn(node.func.attr, own | VALUE_CALLS)
        self.each(check)

    def test_methods_and_attributes(self):
        """L18: no name is both in one class, and each attribute that is read is assigned."""
        assigned, methods = set(), set()
        for _, _, tree in sources():
            for node in ast.walk(tree):
                if isinstance(node, ast.ClassDef):
                    names = {row.name for row in node.body if isinstance(row, ast.FunctionDef)}
                    stored = {row.attr for row in ast.walk(node)
                              if isinstance(row, ast.Attribute) and isinstance(row.ctx, ast.Store)}
                    self.assertEqual(names & stored, set())
                    methods |= names
                    assigned |= stored

        def check(name, text, tree):
            for node in ast.walk(tree):
                if isinstance(node, ast.Attribute):
                    self.assertIn(node.attr, assigned | methods | VALUE_CALLS)
        self.each(check)

    def test_words_in_strings(self):
        """L17 L27."""
        def check(name, text, tree):
            docs = {id(node.body[0].value) for node in ast.walk(tree)
                    if isinstance(node, (ast.Module, ast.ClassDef, ast.FunctionDef))
                    and node.body and isinstance(node.body[0], ast.Expr)}
            for node in ast.walk(tree):
                if isinstance(node, ast.Constant) and isinstance(node.value, str) and id(node) not in docs:
                    self.assertEqual(set(re.findall("[A-Za-z_]+", node.value)) & (BANNED_WORDS | {"type"}), set())
                    self.assertFalse(node.value.startswith("__") or node.value.endswith(("._", ".__")))
        self.each(check)

    def test_loops_leave_what_they_go_over(self):
        """L23: as far as the names show."""
        changing = {"append", "extend", "insert", "pop", "remove", "clear", "reverse", "setdefault", "update"}

        def check(name, text, tree):
            for node in ast.walk(tree):
                if not isinstance(node, ast.For):
                    continue
                over = {ast.unparse(part) for part in ast.walk(node.iter) if isinstance(part, (ast.Name, ast.Attribute))}
                for row in [part for line in node.body for part in ast.walk(line)]:
                    if isinstance(row, ast.Call) and isinstance(row.func, ast.Attribute) and row.func.attr in changing:
                        self.assertNotIn(ast.unparse(row.func.value), over)
                    if isinstance(row, ast.Subscript) and isinstance(row.ctx, ast.Store):
                        self.assertNotIn(ast.unparse(row.value), over)
        self.each(check)

    def test_operators_change_nothing_by_plus_equals(self):
        """L5: what an operator runs counts by literal numbers alone."""
        def check(name, text, tree):
            for node in ast.walk(tree):
                if isinstance(node, ast.AugAssign):
                    self.assertIsInstance(node.target, ast.Name)
                    self.assertIsInstance(node.value, ast.Constant)
        self.each(check)

    def test_names(self):
        """L8 L12 L15 L17."""
        def check(name, text, tree):
            local = set()
            for node in ast.walk(tree):
                if isinstance(node, ast.FunctionDef):
                    local |= {found for found, _ in bound_names(node) if found != node.name}
            top = [node for node in tree.body if isinstance(node, (ast.ImportFrom, ast.ClassDef))]
            imported = {a.name for node in top if isinstance(node, ast.ImportFrom) for a in node.names}
            classes = {node.name for node in top if isinstance(node, ast.ClassDef)}
            self.assertEqual(local & (imported | classes), set())
            bound = {found for found, _ in bound_names(tree)}
            self.assertEqual(bound & BANNED_NAMES, set())
            methods = {row.name for node in ast.walk(tree) if isinstance(node, ast.ClassDef)
                       for row in node.body if isinstance(row, ast.FunctionDef)}
            self.assertEqual((bound - methods) & ALL_BUILTINS, set())
            for node in ast.walk(tree):
                if isinstance(node, ast.Name):
                    self.assertNotIn(node.id, BANNED_WORDS)
                    if node.id in ALL_BUILTINS:
                        self.assertIn(node.id, BUILTINS)
                if isinstance(node, ast.Name) and node.id == "_":
                    self.assertIsInstance(node.ctx, ast.Store)
        self.each(check)


if __name__ == "__main__":
    unittest.main()
