"""Those rules of the Python subset that are plain to check in the files of the package."""

import ast
import builtins
import pathlib
import re
import unittest

PACKAGE = pathlib.Path(__file__).resolve().parent.parent / "midwalk"
# Doctest leaves a name "_" among the builtins.
PYTHON = set(dir(builtins)) - {"_"}
LIBRARY = {
    "heapq": {"heappush", "heappop", "heapify", "heapreplace", "heappushpop"},
    "math": {"gcd", "lcm", "isqrt", "comb", "perm", "factorial"},
    "itertools": {"product", "combinations", "permutations"},
}
BUILTINS = set("""
    len range enumerate zip min max sum abs sorted reversed int str bool list tuple dict set isinstance ord repr any all
    divmod iter next map super property staticmethod classmethod Exception ValueError TypeError KeyError IndexError
    LookupError ZeroDivisionError ArithmeticError OverflowError RuntimeError NotImplementedError AttributeError
    StopIteration NotImplemented
""".split())
METHODS = set("""
    append clear copy count endswith extend find get index insert isalnum isalpha isdigit islower isspace isupper items
    join keys ljust lower lstrip partition pop remove replace reverse rfind rjust rpartition rsplit rstrip setdefault
    split splitlines startswith strip update upper values zfill bit_length add discard sort __init__ title capitalize swapcase casefold center expandtabs
    removeprefix removesuffix rindex isascii isdecimal isnumeric istitle isidentifier isprintable
""".split())
CHANGING = set("append clear extend insert pop remove reverse setdefault update add discard sort".split())
# Methods and attributes of builtin values: no property is called so, and of the attributes only some may be.
TAKEN = {name for kind in (str, int, list, dict, set, bytes) for name in dir(kind)}
BARRED = set("""
    register mro elements open input law version_info with_traceback add_note typing enum Enum Flag Protocol namedtuple
    dataclass overload contextmanager getattr setattr hasattr vars globals locals eval exec
""".split())


def files():
    return sorted(PACKAGE.glob("*.py"))


def trees():
    for file in files():
        yield file.name, ast.parse(file.read_text())


def functions(tree):
    return [node for node in ast.walk(tree) if isinstance(node, (ast.FunctionDef, ast.AsyncFunctionDef))]


def bound_names(tree):
    """All names that a file binds, but for attributes and methods."""
    names = [node.id for node in ast.walk(tree) if isinstance(node, ast.Name) and not isinstance(node.ctx, ast.Load)]
    names += [node.arg for node in ast.walk(tree) if isinstance(node, ast.arg)]
    names += [node.name for node in ast.walk(tree) if isinstance(node, ast.ClassDef)]
    names += [node.name for node in tree.body if isinstance(node, ast.FunctionDef)]
    return names


class LanguageTest(unittest.TestCase):

    def test_files(self):
        others = [path.name for path in PACKAGE.iterdir() if path.name != "__pycache__" and path not in files()]
        self.assertEqual(others, [])
        self.assertTrue((PACKAGE / "__init__.py").exists())
        for file in files():
            self.assertRegex(file.name, r"\A[a-z0-9_]+\.py\Z")
            text = file.read_bytes().decode("ascii")
            self.assertIsNone(re.search(r"[^ -~\n]", text), file.name)
            lines = text.split("\n")
            self.assertLessEqual(len(lines), 400, file.name)
            self.assertLessEqual(max(len(line) for line in lines), 120, file.name)

    def test_functions_are_short(self):
        for name, tree in trees():
            for node in functions(tree):
                self.assertLessEqual(node.end_lineno - node.lineno + 1, 40, (name, node.name))

    def test_imports(self):
        defined = {f"midwalk.{name[:-3]}": set(bound_names(tree)) for name, tree in trees()}
        for name, tree in trees():
            for node in ast.walk(tree):
                self.assertNotIsInstance(node, ast.Import, name)
                if isinstance(node, ast.ImportFrom):
                    self.assertIn(node, tree.body)
                    self.assertEqual(node.level, 0)
                    names = {alias.name for alias in node.names}
                    self.assertLessEqual(names, LIBRARY.get(node.module, defined.get(node.module, set())), name)

    def test_module_level(self):
        for name, tree in trees():
            bound = []
            for at, node in enumerate(tree.body):
                docstring = at == 0 and isinstance(node, ast.Expr) and isinstance(node.value, ast.Constant)
                kinds = (ast.ImportFrom, ast.FunctionDef, ast.ClassDef, ast.Assign)
                self.assertTrue(docstring or isinstance(node, kinds), (name, node.lineno))
                if isinstance(node, ast.Assign):
                    bound += [target.id for target in node.targets]
                elif isinstance(node, ast.ImportFrom):
                    bound += [alias.name for alias in node.names]
                elif not docstring:
                    bound.append(node.name)
            self.assertEqual(len(bound), len(set(bound)), name)

    def test_statements_and_signs(self):
        barred = (ast.Global, ast.AsyncFunctionDef, ast.AsyncFor, ast.AsyncWith, ast.Await, ast.Div, ast.MatMult)
        for name, tree in trees():
            for node in ast.walk(tree):
                where = (name, getattr(node, "lineno", None))
                self.assertNotIsInstance(node, barred, where)
                if isinstance(node, ast.BinOp) and isinstance(node.op, ast.Pow):
                    self.assertIsInstance(node.right, ast.Constant, where)
                if isinstance(node, ast.Constant):
                    self.assertNotIsInstance(node.value, (float, complex), where)
                    self.assertNotIn("%", str(node.value), where)
                if isinstance(node, (ast.For, ast.comprehension)):
                    self.assertNotIsInstance(node.iter, (ast.Set, ast.SetComp), where)

    def test_names(self):
        for name, tree in trees():
            imports = [alias.name for node in tree.body if isinstance(node, ast.ImportFrom) for alias in node.names]
            for word in set(bound_names(tree)) - {"_"}:
                self.assertNotIn(word, PYTHON, name)
                self.assertNotIn(word, imports, name)
                self.assertNotIn(word, BARRED, name)
                self.assertRegex(word, r"\A_?[A-Za-z][A-Za-z0-9_]*\Z")
            for node in ast.walk(tree):
                if isinstance(node, ast.Name) and node.id in PYTHON:
                    self.assertIn(node.id, BUILTINS, (name, node.lineno))

    def test_classes(self):
        for name, tree in trees():
            for made in [node for node in ast.walk(tree) if isinstance(node, ast.ClassDef)]:
                self.assertIn(made, tree.body)
                self.assertEqual(made.decorator_list, [])
                self.assertIsNotNone(ast.get_docstring(made), (name, made.name))
                rest = made.body[1:]
                self.assertTrue(all(isinstance(node, ast.FunctionDef) for node in rest), (name, made.name))
                methods = [node.name for node in rest]
                self.assertEqual(len(set(methods)), len(methods))
                stored = {node.attr for node in ast.walk(made)
                          if isinstance(node, ast.Attribute) and isinstance(node.ctx, ast.Store)}
                self.assertFalse(stored & set(methods))
                self.assertLessEqual(stored & TAKEN, {"count", "index"})

    def test_properties(self):
        for name, tree in trees():
            for node in functions(tree):
                for over in node.decorator_list:
                    self.assertEqual(ast.unparse(over), "property")
                    self.assertNotIn(node.name, TAKEN)
                    self.assertEqual([argument.arg for argument in node.args.args], ["self"])
                    # A docstring, and what is told of one attribute.
                    self.assertEqual(len(node.body), 2, (name, node.name))
                    self.assertRegex(ast.unparse(node.body[1]), r"\Areturn (self\.\w+|list\(self\.\w+\))\Z")

    def test_loops_leave_what_they_go_over(self):
        for name, tree in trees():
            for loop in [node for node in ast.walk(tree) if isinstance(node, ast.For)]:
                over = {ast.unparse(node) for node in ast.walk(loop.iter) if isinstance(node, (ast.Name, ast.Attribute))}
                for node in [inner for row in loop.body for inner in ast.walk(row)]:
                    changed = None
                    if isinstance(node, ast.Subscript) and not isinstance(node.ctx, ast.Load):
                        changed = ast.unparse(node.value)
                    elif isinstance(node, ast.Call) and isinstance(node.func, ast.Attribute):
                        changed = ast.unparse(node.func.value) if node.func.attr in CHANGING else None
                    self.assertNotIn(changed, over, (name, loop.lineno))

    def test_sets_are_asked_at_once(self):
        for name, tree in trees():
            near = set()
            for node in ast.walk(tree):
                if isinstance(node, ast.Call) and ast.unparse(node.func) in ("sorted", "len"):
                    near.update(id(argument) for argument in node.args)
                if isinstance(node, ast.Compare):
                    near.update(id(part) for part in node.comparators)
            for node in ast.walk(tree):
                called = isinstance(node, ast.Call) and ast.unparse(node.func) in ("set", "frozenset")
                if called or isinstance(node, (ast.Set, ast.SetComp)):
                    self.assertIn(id(node), near, (name, node.lineno))

    def test_methods(self):
        own = {node.name for _, tree in trees() for node in functions(tree)}
        for name, tree in trees():
            for node in ast.walk(tree):
                if isinstance(node, ast.Call) and isinstance(node.func, ast.Attribute):
                    self.assertIn(node.func.attr, METHODS | own, (name, node.lineno))


if __name__ == "__main__":
    unittest.main()
