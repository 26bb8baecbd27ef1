"""Holds the files of the package to those rules of LANGUAGE.md that can be seen from outside."""

import ast
import builtins
import os
import re
import unittest

ROOT = os.path.join(os.path.dirname(os.path.dirname(os.path.abspath(__file__))), "wireyard")

BUILTINS = set(
    "len range enumerate zip min max sum abs sorted reversed int str bool list tuple dict set isinstance ord repr "
    "any all divmod super ValueError KeyError NotImplementedError".split()
)
METHODS = set(
    "append clear copy count endswith extend find get index insert isalnum isalpha isdigit islower isspace isupper "
    "items join keys ljust lower lstrip partition pop remove replace reverse rfind rjust rpartition rsplit rstrip "
    "setdefault split splitlines startswith strip update upper values zfill bit_length".split()
)
DOUBLE = ("__init__",)
NO_NODES = (
    ast.Global, ast.AsyncFunctionDef, ast.AsyncFor, ast.AsyncWith, ast.Await, ast.Div, ast.GeneratorExp, ast.Yield,
    ast.YieldFrom, ast.Lambda, ast.Import, ast.MatMult, ast.NamedExpr, ast.Nonlocal, ast.AnnAssign,
)
NO_WORDS = (
    "register mro elements open input law version_info with_traceback add_note attrgetter breakpoint compile eval exec "
    "exit getattr setattr hasattr globals locals vars dir type typing enum Enum Flag Generic Protocol ABC namedtuple "
    "NamedTuple dataclass overload contextmanager print os sys"
).split()


def texts():
    found = {}
    for name in sorted(os.listdir(ROOT)):
        if name != "__pycache__":
            with open(os.path.join(ROOT, name), encoding="utf-8", newline="") as file:
                found[name] = file.read()
    return found


def trees():
    return {name: ast.parse(text) for name, text in texts().items()}


def functions_of(tree):
    return [node for node in ast.walk(tree) if isinstance(node, ast.FunctionDef)]


def defined_in(tree):
    names = []
    for node in tree.body:
        if isinstance(node, (ast.FunctionDef, ast.ClassDef)):
            names.append(node.name)
        elif isinstance(node, ast.Assign):
            names.extend(target.id for target in node.targets)
        elif isinstance(node, ast.ImportFrom):
            names.extend(alias.asname or alias.name for alias in node.names)
    return names


def bound_in(node):
    names = [arg.arg for arg in ast.walk(node) if isinstance(arg, ast.arg)]
    names += [name.id for name in ast.walk(node) if isinstance(name, ast.Name) and isinstance(name.ctx, ast.Store)]
    return names


class TestFiles(unittest.TestCase):
    def test_names_of_files(self):
        self.assertIn("__init__.py", texts())
        for name in texts():
            self.assertRegex(name, r"^[a-z_][a-z0-9_]*\.py$")

    def test_signs_and_sizes(self):
        for name, text in texts().items():
            self.assertEqual([sign for sign in text if not (sign == "\n" or " " <= sign <= "~")], [], name)
            lines = text.split("\n")
            self.assertLessEqual(len(lines), 399, name)
            self.assertLessEqual(max(len(line) for line in lines), 120, name)

    def test_sizes_of_functions(self):
        for name, tree in trees().items():
            for node in functions_of(tree):
                self.assertLessEqual(node.end_lineno - node.lineno + 1, 40, (name, node.name))


class TestStatements(unittest.TestCase):
    def test_module_level(self):
        for name, tree in trees().items():
            for node in tree.body:
                if isinstance(node, ast.Assign):
                    self.assertEqual(len(node.targets), 1)
                    self.assertIsInstance(node.targets[0], ast.Name)
                    ast.literal_eval(node.value)
                elif isinstance(node, ast.Expr):
                    self.assertIsInstance(node.value, ast.Constant)
                else:
                    self.assertIsInstance(node, (ast.ImportFrom, ast.FunctionDef, ast.ClassDef), name)

    def test_nothing_is_bound_twice(self):
        for name, tree in trees().items():
            names = defined_in(tree)
            self.assertEqual(len(names), len(set(names)), name)

    def test_no_other_nodes(self):
        for name, tree in trees().items():
            for node in ast.walk(tree):
                self.assertNotIsInstance(node, NO_NODES, (name, getattr(node, "lineno", 0)))
                self.assertFalse(getattr(node, "decorator_list", []), name)
                if isinstance(node, ast.Constant):
                    self.assertNotIsInstance(node.value, (float, complex, bytes), name)
                    self.assertFalse(isinstance(node.value, str) and "%" in node.value, name)

    def test_powers_have_no_free_exponents(self):
        for name, tree in trees().items():
            for node in ast.walk(tree):
                if isinstance(node, ast.BinOp) and isinstance(node.op, ast.Pow):
                    self.assertIsInstance(node.right, ast.Constant, name)


    def test_views_are_gone_through_at_once(self):
        for name, tree in trees().items():
            good = set()
            for node in ast.walk(tree):
                if isinstance(node, (ast.For, ast.comprehension)):
                    good.add(id(node.iter))
                if isinstance(node, ast.Call) and isinstance(node.func, ast.Name) and node.func.id in GOING_THROUGH:
                    good.add(id(node.args[0]) if node.args else 0)
            for node in ast.walk(tree):
                if isinstance(node, ast.Call) and (called_name(node) in VIEWS):
                    self.assertIn(id(node), good, (name, node.lineno))

    def test_no_name_is_a_method_and_an_attribute(self):
        for name, tree in trees().items():
            for node in ast.walk(tree):
                if isinstance(node, ast.ClassDef):
                    methods = {part.name for part in node.body if isinstance(part, ast.FunctionDef)}
                    told = {part.attr for part in ast.walk(node) if isinstance(part, ast.Attribute) and isinstance(part.ctx, ast.Store)}
                    self.assertFalse(methods & told, (name, node.name))


VIEWS = ("zip", "enumerate", "reversed", "range", "items", "keys", "values")
GOING_THROUGH = ("list", "tuple", "dict", "sorted", "sum", "any", "all", "enumerate", "zip", "reversed")


def called_name(node):
    return node.func.id if isinstance(node.func, ast.Name) else node.func.attr


LIBRARY = {"heapq": ("heappush", "heappop")}


def own_imports(tree):
    """The imports from modules of the package; those of the library are few, and looked at elsewhere."""
    return [node for node in ast.walk(tree) if isinstance(node, ast.ImportFrom) and node.module not in LIBRARY]


class TestImports(unittest.TestCase):
    def test_imports_of_the_library(self):
        for name, tree in trees().items():
            called = [id(node.func) for node in ast.walk(tree) if isinstance(node, ast.Call)]
            for node in ast.walk(tree):
                if isinstance(node, ast.ImportFrom) and node.module in LIBRARY:
                    for alias in node.names:
                        self.assertIn(alias.name, LIBRARY[node.module], name)
                        self.assertIsNone(alias.asname)
                if isinstance(node, ast.Name) and node.id in sum(LIBRARY.values(), ()):
                    self.assertIn(id(node), called, (name, node.lineno))

    def test_imports_name_the_file_that_defines(self):
        found = trees()
        for name, tree in found.items():
            for node in own_imports(tree):
                self.assertEqual((node.level, node.module.split(".")[0]), (0, "wireyard"), name)
                other = found[node.module.split(".")[1] + ".py"]
                own = [thing for thing in other.body if not isinstance(thing, ast.ImportFrom)]
                for alias in node.names:
                    self.assertIsNone(alias.asname)
                    self.assertIn(alias.name, defined_in(ast.Module(body=own, type_ignores=[])), name)

    def test_no_ring_of_imports(self):
        asks = {}
        for name, tree in trees().items():
            asks[name] = sorted({node.module.split(".")[1] + ".py" for node in own_imports(tree)})
        left = dict(asks)
        while left:
            free = [name for name in left if not any(other in left for other in left[name])]
            self.assertTrue(free, left)
            left = {name: left[name] for name in left if name not in free}


class TestNames(unittest.TestCase):
    def test_builtins(self):
        known = set(vars(builtins))
        for name, tree in trees().items():
            for node in ast.walk(tree):
                if isinstance(node, ast.Name) and node.id in known:
                    self.assertIn(node.id, BUILTINS, (name, node.lineno))
                    self.assertIsInstance(node.ctx, ast.Load, (name, node.lineno))
            for bound in bound_in(tree) + defined_in(tree):
                self.assertNotIn(bound, known, name)

    def test_no_local_has_the_name_of_a_class_or_an_import(self):
        for name, tree in trees().items():
            imported = [alias.name for node in tree.body if isinstance(node, ast.ImportFrom) for alias in node.names]
            classes = [node.name for node in tree.body if isinstance(node, ast.ClassDef)]
            for node in functions_of(tree):
                self.assertFalse(set(bound_in(node)) & set(imported + classes), (name, node.name))

    def test_methods(self):
        own = [node.name for tree in trees().values() for node in functions_of(tree)]
        for name, tree in trees().items():
            for node in ast.walk(tree):
                if isinstance(node, ast.Call) and isinstance(node.func, ast.Attribute):
                    self.assertIn(node.func.attr, METHODS | set(own), (name, node.lineno))

    def test_double_underscores(self):
        for name, tree in trees().items():
            for node in ast.walk(tree):
                word = getattr(node, "name", None) or getattr(node, "attr", None) or getattr(node, "id", None)
                if isinstance(word, str) and word.startswith("__"):
                    self.assertIn(word, DOUBLE, (name, node.lineno))

    def test_words_that_are_not_used(self):
        for name, tree in trees().items():
            for node in ast.walk(tree):
                for word in (getattr(node, "name", None), getattr(node, "attr", None), getattr(node, "id", None),
                             getattr(node, "arg", None)):
                    self.assertNotIn(word, NO_WORDS, (name, getattr(node, "lineno", 0)))

    def test_names_are_plain(self):
        for name, tree in trees().items():
            for bound in bound_in(tree) + defined_in(tree):
                self.assertTrue(bound == "_" or re.match(r"_?[A-Za-z][A-Za-z0-9_]*$", bound), (name, bound))


if __name__ == "__main__":
    unittest.main()
