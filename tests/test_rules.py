"""The rules of the language that a script can check cheaply, for each file of the package."""

import ast
import builtins
import os
import re
import unittest

PACKAGE = os.path.join(os.path.dirname(os.path.dirname(os.path.abspath(__file__))), "worneven")
LIBRARY = {
    "heapq": {"heappush", "heappop", "heapify", "heapreplace", "heappushpop"},
    "math": {"gcd", "lcm", "isqrt", "comb", "perm", "factorial"},
    "itertools": {
        "product", "combinations", "permutations", "chain", "accumulate", "pairwise", "islice", "zip_longest",
    },
    "collections": {"defaultdict", "deque"},
}
BUILTINS = set("""
len range enumerate zip min max sum abs sorted reversed int str bool list tuple dict set isinstance ord repr any all
divmod pow getattr hasattr setattr map iter next Exception ValueError TypeError KeyError IndexError LookupError
ZeroDivisionError ArithmeticError OverflowError RuntimeError NotImplementedError AttributeError StopIteration
NotImplemented bytes property staticmethod classmethod super type
""".split())
DOUBLE = {"__init__", "__eq__", "__repr__", "__str__", "__len__", "__enter__", "__exit__", "__call__", "__iter__"}
BARRED = set("""
register mro elements open input law version_info with_traceback add_note typing typing_extensions enum Enum IntEnum
StrEnum Flag IntFlag Generic Protocol ABC ABCMeta namedtuple NamedTuple TypedDict TYPE_CHECKING abstractmethod
dataclass overload contextmanager eval exec compile globals locals vars dir id chr _wall _WallAttr
""".split())
STATEMENTS = (
    ast.Assign, ast.AugAssign, ast.AnnAssign, ast.If, ast.While, ast.For, ast.Return, ast.Break, ast.Continue, ast.Pass,
    ast.Raise, ast.Assert, ast.Delete, ast.Nonlocal, ast.Global, ast.Try, ast.Expr, ast.FunctionDef, ast.ClassDef,
    ast.ImportFrom, ast.With, ast.Match,
)


def files():
    found = []
    for folder, folders, names in os.walk(PACKAGE):
        folders[:] = sorted(name for name in folders if name != "__pycache__")
        found += [os.path.join(folder, name) for name in sorted(names)]
    return found


def text_of(path):
    with open(path, encoding="utf-8", newline="") as held:
        return held.read()


def is_docstring(tree, node):
    for owner in ast.walk(tree):
        if isinstance(owner, (ast.Module, ast.ClassDef, ast.FunctionDef)) and owner.body:
            first = owner.body[0]
            if isinstance(first, ast.Expr) and first.value is node:
                return True
    return False


class Rules(unittest.TestCase):
    def each(self):
        return [(os.path.basename(path), text_of(path), ast.parse(text_of(path))) for path in files()]

    def test_files(self):
        names = [os.path.relpath(path, PACKAGE) for path in files()]
        self.assertIn("__init__.py", names)
        self.assertLessEqual(len(names), 100)
        for name in names:
            self.assertRegex(name, r"\A[a-z0-9_]+\.py\Z")
            self.assertFalse(name.startswith(("test", "law_", "conftest", "site")), name)

    def test_sizes_and_characters(self):
        for file, text, tree in self.each():
            lines = text.split("\n")
            self.assertLessEqual(len(lines) - 1, 399, file)
            self.assertEqual([line for line in lines if len(line) > 120], [], file)
            self.assertIsNone(re.search(r"[^ -~\n]", text), file)
            for node in ast.walk(tree):
                if isinstance(node, ast.FunctionDef):
                    first = min([node.lineno] + [told.lineno for told in node.decorator_list])
                    self.assertLessEqual(node.end_lineno - first + 1, 40, node.name)

    def test_imports(self):
        for file, text, tree in self.each():
            top = [node for node in tree.body if isinstance(node, (ast.Import, ast.ImportFrom))]
            told = [node for node in ast.walk(tree) if isinstance(node, (ast.Import, ast.ImportFrom))]
            self.assertEqual(len(top), len(told), file)
            for node in told:
                self.assertIsInstance(node, ast.ImportFrom)
                self.assertEqual(node.level, 0)
                names = {alias.name for alias in node.names}
                if node.module in LIBRARY:
                    self.assertLessEqual(names, LIBRARY[node.module])
                    continue
                self.assertRegex(node.module, r"\Aworneven\.[a-z0-9_]+\Z")
                source = ast.parse(text_of(os.path.join(PACKAGE, node.module.split(".")[1] + ".py")))
                self.assertLessEqual(names, self.bound(source))

    def bound(self, tree):
        found = set()
        for node in tree.body:
            if isinstance(node, (ast.FunctionDef, ast.ClassDef)):
                found.add(node.name)
            if isinstance(node, ast.Assign):
                found.update(target.id for target in node.targets)
        return found

    def test_no_two_files_import_from_each_other(self):
        ways = {}
        for file, text, tree in self.each():
            name = "worneven." + file[:-3]
            ways[name] = [node.module for node in tree.body if isinstance(node, ast.ImportFrom)]
        while ways:
            free = [name for name in ways if not [way for way in ways[name] if way in ways]]
            self.assertTrue(free, f"in a ring: {sorted(ways)}")
            ways = {name: ways[name] for name in ways if name not in free}

    def test_module_level(self):
        for file, text, tree in self.each():
            names = []
            for node in tree.body:
                docstring = isinstance(node, ast.Expr) and is_docstring(tree, node.value)
                allowed = isinstance(node, (ast.ImportFrom, ast.FunctionDef, ast.ClassDef, ast.Assign))
                self.assertTrue(docstring or allowed, f"{file}, line {node.lineno}")
                if isinstance(node, ast.Assign):
                    self.assertEqual([type(target) for target in node.targets], [ast.Name])
                    self.assertEqual([one for one in ast.walk(node.value) if isinstance(one, ast.Call)], [])
                    names.append(node.targets[0].id)
            self.assertEqual(len(names), len(set(names)))

    def test_statements_and_expressions(self):
        barred = (ast.AsyncFunctionDef, ast.Await, ast.Import, ast.TryStar, ast.Div, ast.MatMult)
        for file, text, tree in self.each():
            for node in ast.walk(tree):
                if isinstance(node, ast.stmt):
                    self.assertIsInstance(node, STATEMENTS, f"{file}, line {node.lineno}")
                self.assertNotIsInstance(node, barred, f"{file}: {ast.dump(node):.200}")
                if isinstance(node, ast.Constant):
                    self.assertNotIsInstance(node.value, (float, complex, bytes), f"{file}, line {node.lineno}")
                if isinstance(node, ast.Constant) and isinstance(node.value, str):
                    self.assertTrue("%" not in node.value or is_docstring(tree, node), f"{file}, line {node.lineno}")

    def test_what_takes_a_list_beside_an_own_equality(self):
        for file, text, tree in self.each():
            for node in ast.walk(tree):
                if isinstance(node, ast.Call) and isinstance(node.func, ast.Name):
                    if node.func.id in ("any", "all", "min", "max", "sum", "sorted"):
                        told = [one for one in node.args if isinstance(one, ast.GeneratorExp)]
                        self.assertEqual(told, [], f"{file}, line {node.lineno}")

    def test_decorators_and_methods(self):
        for file, text, tree in self.each():
            for node in ast.walk(tree):
                if isinstance(node, ast.ClassDef):
                    self.assertEqual((node.decorator_list, node.keywords), ([], []))
                    names = [one.name for one in node.body if isinstance(one, ast.FunctionDef)]
                    self.assertEqual(len(names), len(set(names)))
                if isinstance(node, ast.FunctionDef):
                    self.assertLessEqual({told.id for told in node.decorator_list}, {"property"})
                    if node.name.startswith("__"):
                        self.assertIn(node.name, DOUBLE)

    def test_names(self):
        builtin = {name for name in dir(builtins) if not name.startswith("_")}
        for file, text, tree in self.each():
            for node in ast.walk(tree):
                if isinstance(node, ast.Name):
                    if isinstance(node.ctx, ast.Load) and node.id in builtin:
                        self.assertIn(node.id, BUILTINS, f"{file}, line {node.lineno}")
                    if isinstance(node.ctx, ast.Store):
                        self.assertNotIn(node.id, builtin, f"{file}, line {node.lineno}")
                if isinstance(node, ast.arg):
                    self.assertNotIn(node.arg, builtin, f"{file}, line {node.lineno}")
            code = "\n".join(line.partition("#")[0] for line in text.split("\n"))
            self.assertEqual(set(re.findall(r"[A-Za-z_]\w*", code)) & BARRED, set(), file)
            self.assertEqual(re.findall(r"\btype\b(?!\(\w+\)\.__name__)", code), [], file)


if __name__ == "__main__":
    unittest.main()
