"""The form of the package: the rules of LANGUAGE.md that a short check can see. (It does not replace the rules.)"""

import ast
import builtins
import pathlib
import re
import unittest

PACKAGE = pathlib.Path(__file__).resolve().parent.parent / "sealedslots"
ALLOWED_BUILTINS = set("""len range enumerate zip min max sum abs sorted reversed int str bool bytes list tuple dict set
    frozenset isinstance ord repr any all divmod iter next map super property classmethod staticmethod Exception ValueError
    TypeError KeyError IndexError LookupError ZeroDivisionError ArithmeticError OverflowError RuntimeError
    NotImplementedError StopIteration NotImplemented""".split())
VALUE_METHODS = set("""append clear copy count endswith extend find get index insert isalnum isalpha isdigit islower isspace
    isupper items join keys ljust lower lstrip partition pop remove replace reverse rfind rjust rpartition rsplit rstrip
    setdefault split splitlines startswith strip update upper values zfill bit_length add discard sort""".split())
DUNDERS = set("""__init__ __eq__ __repr__ __str__ __len__ __enter__ __exit__ __call__ __iter__ __lt__ __le__ __gt__ __ge__
    __ne__ __add__ __sub__ __and__ __or__ __xor__ __contains__ __getitem__ __setitem__ __bool__""".split())
BARRED_NAMES = set("""register mro elements open input law version_info with_traceback add_note attrgetter breakpoint compile
    copyright credits delattr dir eval exec exit gc getattr globals hasattr help id importlib license locals methodcaller os
    quit setattr type vars sys""".split())
BARRED_WORDS = re.compile(r"\b(type|typing|typing_extensions|enum|Enum|IntEnum|StrEnum|Flag|IntFlag|Generic|Protocol|ABC|"
                          r"ABCMeta|namedtuple|NamedTuple|TypedDict|TYPE_CHECKING|abstractmethod)\b|dataclass|overload|"
                          r"contextmanager")
BARRED_NODES = (ast.Global, ast.AsyncFunctionDef, ast.AsyncFor, ast.AsyncWith, ast.Await, ast.Import, ast.Div, ast.AnnAssign)
# The prompt of Python, and so a test of examples, adds the name _ to the builtins.
BUILTINS = set(dir(builtins)) - {"_"}
ITERATING = {"list", "tuple", "dict", "sorted", "sum", "min", "max", "any", "all", "enumerate", "zip"}


def files():
    return sorted(PACKAGE.rglob("*.py"))


def trees():
    return [(path, ast.parse(path.read_text())) for path in files()]


def parents(tree):
    found = {}
    for node in ast.walk(tree):
        for child in ast.iter_child_nodes(node):
            found[child] = node
    return found


def called(node):
    """The name of a called function or method."""
    if isinstance(node, ast.Call):
        return getattr(node.func, "id", getattr(node.func, "attr", None))
    return None


class FilesTest(unittest.TestCase):
    def test_only_plain_files(self):
        for path in PACKAGE.rglob("*"):
            if "__pycache__" not in path.parts:
                self.assertTrue(path.is_file() and re.fullmatch(r"(__init__|[a-z][a-z0-9_]*)\.py", path.name), path)

    def test_lines_and_characters(self):
        for path in files():
            text = path.read_text(encoding="utf-8")
            self.assertTrue(all(character == "\n" or " " <= character <= "~" for character in text), path)
            self.assertLessEqual(len(text.splitlines()), 399, path)
            self.assertLessEqual(max([len(line) for line in text.splitlines()]), 120, path)

    def test_barred_words(self):
        for path, tree in trees():
            for node in ast.walk(tree):
                names = [getattr(node, part, None) for part in ("id", "attr", "name", "arg")]
                for name in names:
                    if isinstance(name, str):
                        self.assertNotIn(name, BARRED_NAMES, path)
                        self.assertIsNone(BARRED_WORDS.search(name), path)
                        self.assertTrue(not name.startswith("__") or name in DUNDERS, (path, name))

    def test_strings(self):
        for path, tree in trees():
            for node in ast.walk(tree):
                if isinstance(node, ast.Constant):
                    self.assertNotIsInstance(node.value, (float, complex), path)
                    if isinstance(node.value, str):
                        self.assertNotIn("%", node.value, path)
                        self.assertIsNone(BARRED_WORDS.search(node.value), (path, node.value))


class ImportsTest(unittest.TestCase):
    def imports(self):
        """For each file, the modules that it imports from."""
        found = {}
        for path, tree in trees():
            found[path.stem] = [node.module for node in ast.walk(tree) if isinstance(node, ast.ImportFrom)]
        return found

    def test_imports_name_the_defining_file(self):
        for path, tree in trees():
            for node in ast.walk(tree):
                if isinstance(node, ast.ImportFrom):
                    self.assertEqual(node.level, 0)
                    package, _, module = node.module.partition(".")
                    self.assertEqual(package, "sealedslots", path)
                    there = ast.parse((PACKAGE / (module + ".py")).read_text())
                    bound = [getattr(made, "name", None) for made in there.body]
                    bound += [made.targets[0].id for made in there.body if isinstance(made, ast.Assign)]
                    for alias in node.names:
                        self.assertIn(alias.name, bound, path)
                        self.assertIsNone(alias.asname, path)

    def test_imports_are_used(self):
        for path, tree in trees():
            used = [node.id for node in ast.walk(tree) if isinstance(node, ast.Name)]
            for node in ast.walk(tree):
                if isinstance(node, ast.ImportFrom):
                    for alias in node.names:
                        self.assertIn(alias.name, used, path)

    def test_no_cycles(self):
        imports = {name: [module.split(".")[1] for module in modules] for name, modules in self.imports().items()}
        self.assertEqual(imports["__init__"], [])
        while imports:
            free = [name for name in imports if not any(module in imports for module in imports[name])]
            self.assertTrue(free, imports)
            for name in free:
                del imports[name]


class NamesTest(unittest.TestCase):
    def test_module_level(self):
        for path, tree in trees():
            bound = []
            for node in tree.body:
                if isinstance(node, ast.Assign):
                    self.assertIsInstance(node.targets[0], ast.Name)
                    bound.append(node.targets[0].id)
                elif isinstance(node, ast.ImportFrom):
                    bound += [alias.name for alias in node.names]
                elif isinstance(node, (ast.FunctionDef, ast.ClassDef)):
                    bound.append(node.name)
                else:
                    self.assertIsInstance(getattr(node, "value", None), ast.Constant, path)
            self.assertEqual(len(bound), len(set(bound)), path)
            self.check_locals(path, tree, bound)

    def check_locals(self, path, tree, bound):
        classes = [node.name for node in ast.walk(tree) if isinstance(node, ast.ClassDef)]
        imported = [alias.name for node in tree.body if isinstance(node, ast.ImportFrom) for alias in node.names]
        for node in ast.walk(tree):
            name = node.arg if isinstance(node, ast.arg) else None
            if isinstance(node, ast.Name) and isinstance(node.ctx, ast.Store):
                name = node.id
            if name is not None:
                self.assertNotIn(name, classes + imported, path)
                self.assertNotIn(name, BUILTINS, path)
        for name in bound:
            self.assertNotIn(name, BUILTINS, path)

    def test_builtins(self):
        for path, tree in trees():
            for node in ast.walk(tree):
                if isinstance(node, ast.Name) and node.id in BUILTINS:
                    self.assertIn(node.id, ALLOWED_BUILTINS, path)

    def test_methods(self):
        own = set(VALUE_METHODS)
        for _, tree in trees():
            own |= {node.name for node in ast.walk(tree) if isinstance(node, ast.FunctionDef)}
        for path, tree in trees():
            for node in ast.walk(tree):
                if isinstance(node, ast.Call) and isinstance(node.func, ast.Attribute):
                    self.assertIn(node.func.attr, own, path)


class StatementsTest(unittest.TestCase):
    def test_barred_statements(self):
        for path, tree in trees():
            for node in ast.walk(tree):
                self.assertNotIsInstance(node, BARRED_NODES, path)
                if isinstance(node, (ast.FunctionDef, ast.ClassDef)):
                    self.check_definition(path, node)
                if isinstance(node, ast.Compare):
                    for operator, right in zip(node.ops, node.comparators):
                        if isinstance(operator, (ast.Is, ast.IsNot)):
                            self.assertIn(getattr(right, "value", 0), (None, True, False))

    def check_definition(self, path, node):
        if isinstance(node, ast.ClassDef):
            self.assertEqual(node.decorator_list, [])
            return
        self.assertLessEqual(node.end_lineno - node.lineno + 1, 40, (path, node.name))
        self.assertIsNone(node.returns)
        for decorator in node.decorator_list:
            self.assertIn(ast.unparse(decorator), ("property", "classmethod", "staticmethod"))

    def test_generators_are_iterated_at_once(self):
        generators = set()
        for _, tree in trees():
            for node in ast.walk(tree):
                if isinstance(node, ast.FunctionDef):
                    if any(isinstance(part, (ast.Yield, ast.YieldFrom)) for part in ast.walk(node)):
                        generators.add(node.name)
        for path, tree in trees():
            above = parents(tree)
            for node in ast.walk(tree):
                if called(node) in generators:
                    around = above[node]
                    iterated = isinstance(around, (ast.For, ast.comprehension)) and around.iter is node
                    self.assertTrue(iterated or called(around) in ITERATING, (path, node.lineno))

    def test_sets_are_used_on_the_spot(self):
        for path, tree in trees():
            above = parents(tree)
            for node in ast.walk(tree):
                if isinstance(node, (ast.Set, ast.SetComp)) or called(node) == "set":
                    around = above[node]
                    on_the_spot = called(around) in ("sorted", "len") or isinstance(around, ast.Compare)
                    self.assertTrue(on_the_spot or isinstance(around, ast.Assign), (path, node.lineno))

    def test_views_and_zips_are_iterated_at_once(self):
        for path, tree in trees():
            above = parents(tree)
            for node in ast.walk(tree):
                if called(node) in ("items", "keys", "values", "zip", "enumerate", "reversed"):
                    around = above[node]
                    iterated = isinstance(around, (ast.For, ast.comprehension)) and around.iter is node
                    self.assertTrue(iterated or called(around) in ITERATING | {"join"}, (path, node.lineno))

    def test_lambdas_on_one_line(self):
        for path, tree in trees():
            met = set()
            for node in ast.walk(tree):
                if isinstance(node, ast.Lambda):
                    key = node.lineno, tuple(argument.arg for argument in node.args.args)
                    self.assertNotIn(key, met, path)
                    self.assertEqual(node.args.defaults, [])
                    met.add(key)

    def test_handlers_name_own_errors(self):
        own = {node.name for node in ast.parse((PACKAGE / "errors.py").read_text()).body if isinstance(node, ast.ClassDef)}
        for path, tree in trees():
            for node in ast.walk(tree):
                if isinstance(node, ast.ExceptHandler):
                    named = node.type.elts if isinstance(node.type, ast.Tuple) else [node.type]
                    self.assertTrue({each.id for each in named} <= own, path)
                if isinstance(node, ast.Raise) and node.exc is not None:
                    self.assertIn(node.exc.func.id, own, path)

    def test_properties_are_no_names_of_methods(self):
        methods, properties, generators = set(), set(), set()
        for _, tree in trees():
            for node in ast.walk(tree):
                for part in node.body if isinstance(node, ast.ClassDef) else []:
                    if isinstance(part, ast.FunctionDef):
                        kinds = [ast.unparse(decorator) for decorator in part.decorator_list]
                        (properties if "property" in kinds else methods).add(part.name)
                if isinstance(node, ast.FunctionDef) and any(isinstance(part, ast.Yield) for part in ast.walk(node)):
                    generators.add(node.name)
        self.assertFalse(properties & methods)
        for name in generators:
            defined = [node for _, tree in trees() for node in ast.walk(tree) if isinstance(node, ast.FunctionDef) and node.name == name]
            self.assertEqual(len(defined), 1, name)

    def test_generator_expressions_are_lists_beside_eq(self):
        for path, tree in trees():
            for node in ast.walk(tree):
                self.assertNotIsInstance(node, ast.GeneratorExp, path)


if __name__ == "__main__":
    unittest.main()
