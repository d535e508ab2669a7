"""Rules of the language that a look at the files can find broken (the numbers are those of the rules)."""

import ast
import builtins
import pathlib
import re
import unittest

import slipsights

FOLDER = pathlib.Path(slipsights.__file__).parent
ALLOWED_BUILTINS = set(
    "len range enumerate zip min max sum abs sorted reversed int str bool bytes list tuple dict set frozenset "
    "isinstance ord repr any all divmod pow getattr hasattr setattr map iter next super property staticmethod "
    "classmethod Exception ValueError TypeError KeyError IndexError LookupError ZeroDivisionError ArithmeticError "
    "OverflowError RuntimeError NotImplementedError AttributeError StopIteration NotImplemented".split()
)
DOUBLE_UNDERSCORE = set(
    "init eq repr str len enter exit call iter lt le gt ge ne add sub mul floordiv mod pow and or xor lshift rshift "
    "radd rsub rmul rfloordiv rmod rand ror rxor rlshift rrshift neg pos invert abs bool contains getitem setitem".split()
)
LIBRARY = {"heapq", "math", "itertools", "collections"}
BARRED_NAMES = set(
    "register mro elements open input law version_info with_traceback add_note attrgetter breakpoint builtins compile "
    "copyright credits delattr dir eval exec exit gc globals help id importlib license locals methodcaller os quit "
    "type vars sys".split()
)
BARRED_WORDS = set(
    "typing typing_extensions enum Enum IntEnum StrEnum Flag IntFlag Generic Protocol ABC ABCMeta namedtuple NamedTuple "
    "TypedDict TYPE_CHECKING abstractmethod dataclass overload contextmanager Meta metaclass _wall _WallAttr".split()
)
BARRED_ATTRIBUTES = set(
    "items keys values pop update append clear extend insert remove reverse setdefault sort args encode decode hex "
    "fromhex format format_map mro as_integer_ratio bit_count conjugate from_bytes is_integer to_bytes".split()
)
BARRED_NODES = (
    ast.Global, ast.AsyncFunctionDef, ast.AsyncFor, ast.AsyncWith, ast.Await, ast.Div, ast.MatMult, ast.Set,
    ast.GeneratorExp, ast.NamedExpr,
)


METHODS = set(
    "append clear copy count endswith extend find get index insert isalnum isalpha isdigit islower isspace isupper "
    "items join keys ljust lower lstrip partition pop remove replace reverse rfind rjust rpartition rsplit rstrip "
    "setdefault split splitlines startswith strip update upper values zfill bit_length removeprefix removesuffix".split()
)
AT_ONCE = set("list tuple dict sorted sum any all enumerate zip".split())


def files():
    return sorted(FOLDER.rglob("*.py"))


def nodes():
    for path in files():
        for node in ast.walk(ast.parse(path.read_text())):
            yield path.name, node


def nodes_with_parents():
    for path in files():
        tree = ast.parse(path.read_text())
        for parent in ast.walk(tree):
            for node in ast.iter_child_nodes(parent):
                yield (path.name, getattr(node, "lineno", None)), node, parent


def called(node):
    """The name of the function or method that a node calls, or None."""
    if not isinstance(node, ast.Call):
        return None
    return node.func.attr if isinstance(node.func, ast.Attribute) else getattr(node.func, "id", None)


class TestFiles(unittest.TestCase):
    def test_l1_nothing_else_in_the_folder(self):
        others = [path for path in FOLDER.rglob("*") if path.suffix != ".py" and "__pycache__" not in path.parts]
        self.assertEqual(others, [])

    def test_l10_sizes(self):
        for path in files():
            lines = path.read_text().split("\n")
            self.assertLessEqual(len(lines), 399, path)
            for number, line in enumerate(lines):
                self.assertLessEqual(len(line), 120, (path, number + 1))
        for name, node in nodes():
            if isinstance(node, (ast.FunctionDef, ast.Lambda)):
                self.assertLessEqual(node.end_lineno - node.lineno + 1, 40, (name, node.lineno))

    def test_l14_characters(self):
        for path in files():
            self.assertEqual(set(re.findall("[^ -~\n]", path.read_text())), set(), path)

    def test_l17_words(self):
        for path in files():
            words = set(re.findall("[A-Za-z0-9_]+", path.read_text()))
            self.assertEqual(words & BARRED_WORDS, set(), path)


class TestImports(unittest.TestCase):
    def test_l2_imports(self):
        for name, node in nodes():
            self.assertNotIsInstance(node, ast.Import, name)
            if isinstance(node, ast.ImportFrom):
                self.assertEqual(node.level, 0, name)
                parts = node.module.split(".")
                self.assertTrue(node.module in LIBRARY or (parts[0] == "slipsights" and len(parts) == 2), node.module)
                self.assertNotIn("*", [one.name for one in node.names])

    def test_l16_the_file_that_defines_the_name(self):
        for name, node in nodes():
            if isinstance(node, ast.ImportFrom) and node.module not in LIBRARY:
                tree = ast.parse((FOLDER / (node.module.split(".")[1] + ".py")).read_text())
                defined = [one.name for one in tree.body if isinstance(one, (ast.FunctionDef, ast.ClassDef))]
                defined += [one.targets[0].id for one in tree.body if isinstance(one, ast.Assign)]
                for one in node.names:
                    self.assertIn(one.name, defined, name)

    def test_l16_no_circles(self):
        graph = {path.stem: set() for path in files()}
        for name, node in nodes():
            if isinstance(node, ast.ImportFrom) and node.module not in LIBRARY:
                graph[name[:-3]].add(node.module.split(".")[1])
        while graph:
            ends = [name for name in graph if not graph[name]]
            self.assertNotEqual(ends, [], graph)
            graph = {name: inner - set(ends) for name, inner in graph.items() if name not in ends}

    def test_every_import_is_used(self):
        for path in files():
            tree = ast.parse(path.read_text())
            used = {node.id for node in ast.walk(tree) if isinstance(node, ast.Name)}
            for node in tree.body:
                if isinstance(node, ast.ImportFrom):
                    self.assertEqual({one.name for one in node.names} - used, set(), path)


class TestCode(unittest.TestCase):
    def test_l3_module_level(self):
        plain = (ast.ImportFrom, ast.FunctionDef, ast.ClassDef, ast.Assign)
        for path in files():
            body = ast.parse(path.read_text()).body
            self.assertIsInstance(body[0], ast.Expr, path)
            for node in body[1:]:
                self.assertIsInstance(node, plain, (path, node.lineno))

    def test_l15_names_are_bound_once(self):
        for path in files():
            bound = []
            for node in ast.parse(path.read_text()).body:
                if isinstance(node, ast.ImportFrom):
                    bound += [one.name for one in node.names]
                elif isinstance(node, (ast.FunctionDef, ast.ClassDef)):
                    bound.append(node.name)
                elif isinstance(node, ast.Assign):
                    bound.append(node.targets[0].id)
            self.assertEqual(len(bound), len(set(bound)), path)
            self.assertEqual(self.local_names(path) & self.classes_and_imports(path), set(), path)

    def classes_and_imports(self, path):
        found = set()
        for node in ast.parse(path.read_text()).body:
            if isinstance(node, ast.ImportFrom):
                found |= {one.name for one in node.names}
            if isinstance(node, ast.ClassDef):
                found.add(node.name)
        return found

    def local_names(self, path):
        found = set()
        for node in ast.walk(ast.parse(path.read_text())):
            if isinstance(node, ast.arg):
                found.add(node.arg)
            if isinstance(node, ast.Name) and not isinstance(node.ctx, ast.Load):
                found.add(node.id)
        return found

    def test_l8_and_l15_builtins(self):
        every = set(dir(builtins)) - {"_"}  # doctest leaves one there
        for path in files():
            self.assertEqual(self.local_names(path) & (every | BARRED_NAMES), set(), path)
        for name, node in nodes():
            if isinstance(node, ast.Name) and node.id in every:
                self.assertIn(node.id, ALLOWED_BUILTINS, (name, node.lineno))
            if isinstance(node, (ast.FunctionDef, ast.ClassDef)):
                self.assertNotIn(node.name, BARRED_NAMES, name)

    def test_l6_and_l7_nodes(self):
        for name, node in nodes():
            self.assertNotIsInstance(node, BARRED_NODES, (name, getattr(node, "lineno", None)))
            self.assertFalse(isinstance(node, ast.Constant) and isinstance(node.value, float), name)

    def test_l5_methods_and_decorators(self):
        for name, node in nodes():
            if isinstance(node, ast.ClassDef):
                self.assertEqual(node.decorator_list, [], name)
                methods = [one.name for one in node.body if isinstance(one, ast.FunctionDef)]
                self.assertEqual(len(methods), len(set(methods)), node.name)
                self.assertTrue("__getitem__" not in methods or "__iter__" in methods, node.name)
            if isinstance(node, ast.FunctionDef):
                for one in node.decorator_list:
                    self.assertIn(one.id, ("property", "classmethod", "staticmethod"), name)
                if node.name.startswith("__"):
                    self.assertIn(node.name.strip("_"), DOUBLE_UNDERSCORE, name)

    def test_l5_sorted_beside_an_order(self):
        # Spans and cells are ordered as sets are, so nothing is sorted but what surely is plain.
        for place, node, _ in nodes_with_parents():
            self.assertNotIn(called(node), ("min", "max", "sort"), place)
            if called(node) == "sorted":
                self.assertEqual((called(node.args[0]), node.keywords), ("set", []), place)
            if called(node) == "reversed":
                self.assertIn(called(node.args[0]), ("list", "tuple", "sorted", "range"), place)

    def test_l5_truth_of_objects(self):
        for name, node in nodes():
            if isinstance(node, ast.FunctionDef) and node.name == "__bool__":
                value = node.body[-1].value
                is_plain = isinstance(value, ast.Compare) and isinstance(value.ops[0], (ast.Is, ast.IsNot))
                self.assertTrue(called(value) == "bool" or is_plain, name)

    def test_l5_operators_change_nothing(self):
        for name, node in nodes():
            no_operators = ("__init__", "__enter__", "__exit__")
            if isinstance(node, ast.FunctionDef) and node.name.startswith("__") and node.name not in no_operators:
                for inner in ast.walk(node):
                    is_stored = isinstance(getattr(inner, "ctx", None), (ast.Store, ast.Del))
                    self.assertFalse(is_stored and not isinstance(inner, (ast.Name, ast.Tuple)), (name, node.name))
                    self.assertNotIsInstance(inner, ast.AugAssign, (name, node.name))

    def test_l6_exit_only_assigns(self):
        for name, node in nodes():
            if isinstance(node, ast.FunctionDef) and node.name == "__exit__":
                self.assertEqual(len(node.args.args), 4, name)
                for row in node.body:
                    self.assertIsInstance(row, ast.Assign, (name, row.lineno))
                    self.assertIsInstance(row.targets[0], (ast.Name, ast.Attribute), (name, row.lineno))
                    self.assertIsInstance(row.value, (ast.Name, ast.Attribute), (name, row.lineno))

    def test_l6_with_over_calls_of_own_classes(self):
        own = {node.name for _, node in nodes() if isinstance(node, ast.ClassDef)}
        for name, node in nodes():
            if isinstance(node, ast.With):
                for one in node.items:
                    self.assertIn(called(one.context_expr), own, (name, node.lineno))

    def test_l7_stars_in_calls(self):
        for place, node, parent in nodes_with_parents():
            if isinstance(node, ast.Starred) and isinstance(parent, ast.Call):
                self.assertIsInstance(node.value, (ast.Name, ast.Attribute), place)
                self.assertIs(parent.args[-1], node, place)

    def test_l23_iterated_at_once(self):
        for place, node, parent in nodes_with_parents():
            if called(node) in ("zip", "enumerate", "reversed", "range", "items", "keys", "values"):
                is_head = isinstance(parent, (ast.For, ast.comprehension)) and parent.iter is node
                is_argument = called(parent) in AT_ONCE and node in parent.args
                is_row = called(node) == "range" and called(parent) == "reversed"
                self.assertTrue(is_head or is_argument or is_row, place)

    def test_l24_sets(self):
        for place, node, parent in nodes_with_parents():
            if called(node) in ("set", "frozenset") or isinstance(node, ast.SetComp):
                self.assertIn(called(parent), ("sorted", "len"), place)

    def test_l25_methods(self):
        own = {node.name for _, node in nodes() if isinstance(node, ast.FunctionDef)}
        for name, node in nodes():
            if isinstance(node, ast.Call) and isinstance(node.func, ast.Attribute):
                self.assertIn(node.func.attr, METHODS | own, (name, node.lineno))

    def test_l18_methods_and_attributes(self):
        methods, attributes = set(), set()
        for name, node in nodes():
            if isinstance(node, ast.ClassDef):
                methods |= {one.name for one in node.body if isinstance(one, ast.FunctionDef)}
            if isinstance(node, ast.Attribute) and isinstance(node.ctx, ast.Store):
                attributes.add(node.attr)
        self.assertEqual(methods & attributes, set())
        self.assertEqual(attributes & BARRED_ATTRIBUTES, set())

    def test_l19_handlers(self):
        own = {"KeyError", "ZeroDivisionError"}
        own |= {node.name for name, node in nodes() if name == "errors.py" and isinstance(node, ast.ClassDef)}
        for name, node in nodes():
            if isinstance(node, ast.ExceptHandler):
                self.assertIn(node.type.id, own, (name, node.lineno))
            if isinstance(node, ast.Raise) and node.exc is not None:
                self.assertIsInstance(node.exc, ast.Call, (name, node.lineno))

    def test_l27_strings(self):
        for name, node in nodes():
            if isinstance(node, ast.Constant) and isinstance(node.value, str):
                self.assertNotIn("%", node.value, (name, node.lineno))
                self.assertFalse(node.value.startswith("__"), (name, node.lineno))

    def test_l28_returns(self):
        for name, node in nodes():
            if isinstance(node, ast.FunctionDef) and node.name in ("__str__", "__repr__", "__len__"):
                self.assertIsInstance(node.body[-1], ast.Return, (name, node.lineno))
                value = node.body[-1].value
                if node.name == "__len__":
                    self.assertEqual(value.func.id, "len", (name, node.lineno))
                else:
                    self.assertIsInstance(value, (ast.JoinedStr, ast.Call, ast.Constant), (name, node.lineno))


if __name__ == "__main__":
    unittest.main()
