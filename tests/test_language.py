"""Rules of LANGUAGE.md that can be read off the files of the package by themselves."""

import ast
import builtins
import os
import re
import unittest

FOLDER = os.path.join(os.path.dirname(os.path.dirname(os.path.abspath(__file__))), "cutnotes")

ALLOWED_BUILTINS = set((
    "len range enumerate zip min max sum abs sorted reversed int str bool bytes list tuple dict set frozenset "
    "isinstance ord repr any all divmod pow getattr hasattr setattr iter next map type super property "
    "staticmethod classmethod Exception ValueError TypeError KeyError IndexError LookupError ZeroDivisionError "
    "ArithmeticError OverflowError RuntimeError NotImplementedError AttributeError StopIteration NotImplemented "
    "object float").split())
LIBRARY = {
    "heapq": "heappush heappop heapify heapreplace heappushpop", "math": "gcd lcm isqrt comb perm factorial",
    "itertools": "product combinations permutations chain accumulate pairwise islice zip_longest",
    "collections": "defaultdict deque"}
BARRED = (
    "typing typing_extensions enum Enum IntEnum StrEnum Flag IntFlag Generic Protocol ABC ABCMeta namedtuple "
    "NamedTuple TypedDict TYPE_CHECKING abstractmethod register mro elements open input law").split()
METHODS = set((
    "append clear copy count endswith extend find get index insert isalnum isalpha isdigit islower isspace isupper "
    "items join keys ljust lower lstrip partition pop remove replace reverse rfind rjust rpartition rsplit rstrip "
    "setdefault split splitlines startswith strip update upper values zfill bit_length __init__").split())
# Beside a class with __eq__ no generator expression may stand in any, all and the like; sets are not needed.
BARRED_NODES = (
    ast.AsyncFunctionDef, ast.Await, ast.AsyncFor, ast.AsyncWith, ast.Div, ast.MatMult, ast.Global, ast.Import,
    ast.GeneratorExp, ast.Set, ast.SetComp)
# What these tell is iterated at once, not kept or passed on.
AT_ONCE = set("range enumerate zip reversed map items keys values".split())


def files():
    """The names of the package's files with their texts."""
    found = {}
    for name in sorted(os.listdir(FOLDER)):
        if name != "__pycache__":
            with open(os.path.join(FOLDER, name), encoding="utf-8") as file:
                found[name] = file.read()
    return found


def walked():
    """Each node of each file, with the file's name."""
    for name, text in files().items():
        for node in ast.walk(ast.parse(text)):
            yield name, node


class Language(unittest.TestCase):

    def test_files_and_characters(self):
        for name, text in files().items():
            self.assertRegex(name, r"\A[a-z0-9_]+\.py\Z")
            self.assertRegex(text, r"\A[ -~\n]*\Z", name)
            self.assertLessEqual(len(text.split("\n")), 400, name)
            for line in text.split("\n"):
                self.assertLessEqual(len(line), 120, name)
            for word in BARRED:
                self.assertIsNone(re.search(r"\b" + word + r"\b", text), (name, word))

    def test_functions_are_short(self):
        for name, node in walked():
            if isinstance(node, ast.FunctionDef):
                self.assertLessEqual(node.end_lineno - node.lineno + 1, 40, (name, node.name))
                self.assertEqual(node.decorator_list, [], (name, node.name))

    def test_module_level(self):
        for name, text in files().items():
            for node in ast.parse(text).body:
                plain = isinstance(node, (ast.ImportFrom, ast.FunctionDef, ast.ClassDef, ast.Assign))
                docstring = isinstance(node, ast.Expr) and isinstance(node.value, ast.Constant)
                self.assertTrue(plain or docstring, (name, node.lineno))

    def test_imports(self):
        known = files()
        needs = {}
        for name, node in walked():
            needs.setdefault(name, [])
            if not isinstance(node, ast.ImportFrom):
                continue
            told = [alias.name for alias in node.names]
            self.assertEqual([alias.asname for alias in node.names], [None] * len(told), name)
            if node.module in LIBRARY:
                self.assertLessEqual(set(told), set(LIBRARY[node.module].split()), name)
                continue
            package, _, module = node.module.partition(".")
            self.assertEqual((package, node.level), ("cutnotes", 0), name)
            body = ast.parse(known[module + ".py"]).body
            defined = {part.name for part in body if isinstance(part, (ast.FunctionDef, ast.ClassDef))}
            defined |= {target.id for part in body if isinstance(part, ast.Assign) for target in part.targets}
            self.assertLessEqual(set(told), defined, name)
            needs[name].append(module + ".py")
        # Files that need nothing are taken away until none is left: so there is no circle.
        while needs:
            free = [name for name in needs if not [need for need in needs[name] if need in needs]]
            self.assertTrue(free, needs)
            for name in free:
                del needs[name]

    def test_nodes_and_names(self):
        for name, node in walked():
            self.assertNotIsInstance(node, BARRED_NODES, name)
            if isinstance(node, ast.Constant):
                self.assertNotIsInstance(node.value, (float, complex), name)
                if isinstance(node.value, str):
                    self.assertNotIn("%", node.value, name)
            if isinstance(node, ast.Name) and node.id in vars(builtins):
                self.assertIn(node.id, ALLOWED_BUILTINS, name)
                self.assertIsInstance(node.ctx, ast.Load, name)
            if isinstance(node, ast.arg):
                self.assertNotIn(node.arg, vars(builtins), name)
            if isinstance(node, (ast.FunctionDef, ast.ClassDef)):
                self.assertNotIn(node.name, vars(builtins), name)
            if isinstance(node, ast.Compare):
                for sign, right in zip(node.ops, node.comparators):
                    if isinstance(sign, (ast.Is, ast.IsNot)):
                        self.assertIsInstance(right, ast.Constant, (name, node.lineno))

    def test_methods_that_are_called(self):
        own = {node.name for _, node in walked() if isinstance(node, ast.FunctionDef)}
        for name, node in walked():
            if isinstance(node, ast.Call) and isinstance(node.func, ast.Attribute):
                self.assertIn(node.func.attr, METHODS | own, (name, node.lineno))

    def test_what_is_iterated_at_once(self):
        for name, node in walked():
            given = [node.value] if isinstance(node, (ast.Assign, ast.Return, ast.AugAssign, ast.Starred)) else []
            if isinstance(node, ast.Call) and not (isinstance(node.func, ast.Name) and node.func.id in vars(builtins)):
                given = node.args
            for value in given:
                if isinstance(value, ast.Call):
                    called = getattr(value.func, "id", getattr(value.func, "attr", None))
                    self.assertNotIn(called, AT_ONCE, (name, node.lineno))

    def test_no_local_name_hides_an_import_or_a_class(self):
        for name, text in files().items():
            tree = ast.parse(text)
            taken = {alias.name for node in tree.body if isinstance(node, ast.ImportFrom) for alias in node.names}
            taken |= {node.name for node in tree.body if isinstance(node, ast.ClassDef)}
            for node in ast.walk(tree):
                if isinstance(node, ast.arg):
                    self.assertNotIn(node.arg, taken, name)
                if isinstance(node, ast.Name) and isinstance(node.ctx, ast.Store):
                    self.assertNotIn(node.id, taken, name)


if __name__ == "__main__":
    unittest.main()
