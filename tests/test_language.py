"""Those rules of LANGUAGE.md that a look at the files of the package can check."""

import ast
import builtins
import io
import os
import tokenize
import unittest

PACKAGE = os.path.join(os.path.dirname(os.path.dirname(os.path.abspath(__file__))), "oneofeach")
LIBRARY = {
    "heapq": {"heappush", "heappop", "heapify", "heapreplace", "heappushpop"},
    "math": {"gcd", "lcm", "isqrt", "comb", "perm", "factorial"},
    "itertools": {
        "product", "combinations", "permutations", "chain", "accumulate", "pairwise", "islice", "zip_longest",
    },
    "collections": {"defaultdict", "deque"},
}
CALLED = {
    "len", "range", "enumerate", "zip", "min", "max", "sum", "abs", "sorted", "reversed", "int", "str", "bool",
    "list", "tuple", "dict", "set", "isinstance", "ord", "repr", "any", "all", "divmod", "pow", "map", "iter",
    "next", "ValueError", "Exception", "super",
}
METHODS = set(
    "append clear copy count endswith extend find get index insert isalnum isalpha isdigit islower isspace isupper "
    "items join keys ljust lower lstrip partition pop remove replace reverse rfind rjust rpartition rsplit rstrip "
    "setdefault split splitlines startswith strip update upper values zfill bit_length sort add discard".split()
)
BARRED = set(
    "register mro elements open input law version_info with_traceback add_note attrgetter breakpoint compile dir eval "
    "exec exit gc globals help id importlib license locals methodcaller os quit vars type typing typing_extensions "
    "enum Enum IntEnum StrEnum Flag IntFlag Generic Protocol ABC ABCMeta namedtuple NamedTuple TypedDict "
    "TYPE_CHECKING abstractmethod dataclass overload contextmanager async await global chr".split()
)


def files():
    """The names of the files in the package, without what Python itself puts there."""
    return sorted(name for name in os.listdir(PACKAGE) if name != "__pycache__")


def texts():
    """The text of each file by its name."""
    found = {}
    for name in files():
        with open(os.path.join(PACKAGE, name), encoding="utf-8", newline="") as file:
            found[name] = file.read()
    return found


def nodes(text):
    """All nodes of the tree of a text."""
    return list(ast.walk(ast.parse(text)))


def consumers(text):
    """Pairs of a call and what stands around it: the name of a call, the kind of statement or comprehension."""
    found = []
    for node in nodes(text):
        for field, held in ast.iter_fields(node):
            for child in held if isinstance(held, list) else [held]:
                if isinstance(child, ast.Call):
                    around = type(node).__name__ + "." + field
                    if isinstance(node, ast.Call) and isinstance(node.func, ast.Name) and child in node.args[:1]:
                        around = node.func.id
                    if isinstance(node, ast.Call) and node.func is not child and around == "Call.args":
                        around = ast.unparse(node.func)
                    found.append((child, around))
    return found


def bound_names(text):
    """The names of variables, parameters and functions that a text binds (no methods, no attributes)."""
    found = []
    for node in nodes(text):
        if isinstance(node, ast.Name) and isinstance(node.ctx, ast.Store):
            found.append(node.id)
        elif isinstance(node, ast.arg):
            found.append(node.arg)
        elif isinstance(node, ast.ExceptHandler) and node.name:
            found.append(node.name)
    return found + [node.name for node in ast.parse(text).body if isinstance(node, (ast.FunctionDef, ast.ClassDef))]


def imported(text):
    """The pairs (module, name) that a text imports."""
    found = []
    for node in nodes(text):
        if isinstance(node, ast.ImportFrom):
            found.extend((node.module, alias.name) for alias in node.names)
    return found


class LanguageTest(unittest.TestCase):

    def test_files(self):
        self.assertIn("__init__.py", files())
        for name in files():
            self.assertRegex(name, "^[a-z_]+[.]py$")

    def test_characters_and_sizes(self):
        for name, text in texts().items():
            with self.subTest(file=name):
                self.assertTrue(all(" " <= sign <= "~" or sign == "\n" for sign in text))
                self.assertLessEqual(text.count("\n"), 399)
                self.assertLessEqual(max(len(line) for line in text.split("\n")), 120)
                for node in nodes(text):
                    if isinstance(node, ast.FunctionDef):
                        self.assertLessEqual(node.end_lineno - node.lineno + 1, 40, node.name)

    def test_imports(self):
        known = set(name[:-3] for name in files())
        for name, text in texts().items():
            for node in nodes(text):
                self.assertNotIsInstance(node, ast.Import)
            for module, word in imported(text):
                with self.subTest(file=name, module=module, word=word):
                    if module in LIBRARY:
                        self.assertIn(word, LIBRARY[module])
                        continue
                    package, _, file = module.partition(".")
                    self.assertEqual(package, "oneofeach")
                    self.assertIn(file, known)
                    self.assertIn(word, bound_names(texts()[file + ".py"]))

    def test_imports_in_no_circle(self):
        uses = {}
        for name, text in texts().items():
            uses[name[:-3]] = set(module[10:] for module, _ in imported(text) if module.startswith("oneofeach."))
        while uses:
            free = [name for name in uses if not uses[name] & set(uses)]
            self.assertTrue(free, uses)
            for name in free:
                del uses[name]

    def test_module_level(self):
        allowed = (ast.Expr, ast.ImportFrom, ast.FunctionDef, ast.ClassDef, ast.Assign)
        for name, text in texts().items():
            body = ast.parse(text).body
            for node in body:
                self.assertIsInstance(node, allowed, name)
                if isinstance(node, ast.Expr):
                    self.assertIs(node, body[0])
                    self.assertIsInstance(node.value, ast.Constant)

    def test_names(self):
        for name, text in texts().items():
            outer = [word for _, word in imported(text)]
            outer += [node.name for node in ast.parse(text).body if isinstance(node, (ast.FunctionDef, ast.ClassDef))]
            self.assertEqual(len(outer), len(set(outer)), name)
            bound = bound_names(text)
            for word in bound:
                self.assertFalse(hasattr(builtins, word), (name, word))
            for word in outer:
                self.assertLessEqual(bound.count(word), 1, (name, word))
            for _, word in imported(text):
                self.assertNotIn(word, bound, name)

    def test_no_other_builtins(self):
        for name, text in texts().items():
            for node in nodes(text):
                if isinstance(node, ast.Name) and isinstance(node.ctx, ast.Load) and hasattr(builtins, node.id):
                    self.assertIn(node.id, CALLED, name)

    def test_methods(self):
        own = set()
        for text in texts().values():
            own.update(node.name for node in nodes(text) if isinstance(node, ast.FunctionDef))
        for name, text in texts().items():
            for node in nodes(text):
                if isinstance(node, ast.Call) and isinstance(node.func, ast.Attribute):
                    self.assertIn(node.func.attr, METHODS | own, name)

    def test_what_is_iterated_at_once(self):
        # L23 allows some places more, of which the package has no need.
        loops = {"For.iter", "comprehension.iter"}
        takers = loops | {"list", "tuple", "dict", "sorted", "sum", "any", "all", "enumerate", "zip"}
        allowed = {name: takers for name in ["zip", "enumerate", "range", "map", "items", "keys", "values"]}
        allowed["reversed"] = takers
        allowed["range"] = takers | {"reversed", "permutations", "combinations", "product", "min", "max", "len"}
        for name, text in texts().items():
            here = dict(allowed)
            here.update({word: loops | {"list", "tuple", "sorted"} for module, word in imported(text) if module == "itertools"})
            for call, around in consumers(text):
                called = call.func.attr if isinstance(call.func, ast.Attribute) else call.func.id
                if called in here:
                    self.assertIn(around, here[called], (name, called))

    def test_sets_only_where_they_may_stand(self):
        for name, text in texts().items():
            kept = {"Assign.value", "sorted", "len"}
            for call, around in consumers(text):
                if isinstance(call.func, ast.Name) and call.func.id == "set":
                    self.assertIn(around, kept, name)

    def test_no_annotations_decorators_and_other_statements(self):
        banned = (
            ast.AnnAssign, ast.AsyncFunctionDef, ast.AsyncFor, ast.AsyncWith, ast.Await, ast.Global, ast.Set,
            ast.Div, ast.MatMult, ast.Pow,
        )
        for name, text in texts().items():
            for node in nodes(text):
                self.assertNotIsInstance(node, banned, name)
                if isinstance(node, (ast.FunctionDef, ast.ClassDef)):
                    self.assertEqual(node.decorator_list, [], name)
                if isinstance(node, ast.FunctionDef):
                    self.assertIsNone(node.returns, name)
                if isinstance(node, ast.arg):
                    self.assertIsNone(node.annotation, name)

    def test_strings_and_numbers(self):
        for name, text in texts().items():
            for node in nodes(text):
                if isinstance(node, ast.Constant):
                    self.assertNotIsInstance(node.value, (float, complex), name)
                    self.assertFalse(isinstance(node.value, str) and "%" in node.value, name)

    def test_is_with_constants_only(self):
        for name, text in texts().items():
            for node in nodes(text):
                if isinstance(node, ast.Compare) and any(isinstance(sign, (ast.Is, ast.IsNot)) for sign in node.ops):
                    self.assertIsInstance(node.comparators[0], ast.Constant, name)

    def test_attributes_that_are_read_are_assigned(self):
        all_nodes = [node for text in texts().values() for node in nodes(text)]
        attributes = [node for node in all_nodes if isinstance(node, ast.Attribute)]
        stored = {node.attr for node in attributes if isinstance(node.ctx, ast.Store)}
        called = [node.func for node in all_nodes if isinstance(node, ast.Call)]
        for node in attributes:
            if node not in called:
                self.assertIn(node.attr, stored)

    def test_words_that_do_not_occur(self):
        for name, text in texts().items():
            for token in tokenize.generate_tokens(io.StringIO(text).readline):
                if token.type == tokenize.NAME:
                    self.assertNotIn(token.string, BARRED, name)
                    self.assertNotRegex(token.string, "^__(?!init__$)|^_(wall|pe_|dcw_|enum_|cm_|lay_|law_|stub_|sre)")


if __name__ == "__main__":
    unittest.main()
