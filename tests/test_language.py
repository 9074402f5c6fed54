"""The rules of ../shared/LANGUAGE.md that a test can see, for each file of the package."""

import ast
import builtins
import pathlib
import unittest

PACKAGE = pathlib.Path(__file__).resolve().parent.parent / "fewchairs"
FILES = sorted(PACKAGE.rglob("*.py"))
TREES = {path: ast.parse(path.read_text(encoding="utf-8")) for path in FILES}

LIBRARY = {
    "heapq": {"heappush", "heappop", "heapify", "heapreplace", "heappushpop"},
    "math": {"gcd", "lcm", "isqrt", "comb", "perm", "factorial"},
    "itertools": {"product", "combinations", "permutations", "chain", "accumulate", "pairwise", "islice",
                  "zip_longest"},
    "collections": {"defaultdict", "deque"},
}
BUILTINS = set("""set len range enumerate zip min max sum abs sorted reversed int str bool list tuple dict set
    isinstance ord repr any all divmod iter next map super NotImplemented ValueError TypeError KeyError
    IndexError LookupError""".split())
ALL_BUILTINS = {name for name in dir(builtins) if not name.startswith("_")}
METHODS = set("""__init__ __eq__ __len__ __call__ __iter__ __rshift__ __add__ __contains__ __getitem__
    __setitem__""".split())
DECORATORS = {"property", "staticmethod", "classmethod"}
NEVER = set("register mro elements open input law version_info with_traceback add_note".split())
WORDS = set("""type typing enum Enum Flag Generic Protocol ABC namedtuple NamedTuple TypedDict
    abstractmethod""".split())


def nodes(*kinds):
    """All nodes of these kinds with their files."""
    for path, tree in TREES.items():
        for node in ast.walk(tree):
            if isinstance(node, kinds):
                yield path.name, node


def imported(tree):
    return [node for node in tree.body if isinstance(node, ast.ImportFrom)]


class Files(unittest.TestCase):
    def test_only_plain_files(self):
        found = [path for path in PACKAGE.rglob("*") if "__pycache__" not in path.parts]
        self.assertEqual(sorted(found), FILES)
        self.assertLessEqual(len(FILES), 100)
        self.assertIn(PACKAGE / "__init__.py", FILES)
        for path in FILES:
            self.assertRegex(path.name, r"^[a-z_]+\.py$")
            self.assertNotIn(path.stem, ALL_BUILTINS)

    def test_size_and_signs(self):
        for path in FILES:
            lines = path.read_bytes().decode("ascii").split("\n")
            self.assertLessEqual(len(lines) - 1, 399, path)
            for line in lines:
                self.assertLessEqual(len(line), 120, (path, line))
                self.assertRegex(line, r"^[ -~]*$", path)

    def test_functions_have_at_most_40_lines(self):
        for name, node in nodes(ast.FunctionDef):
            self.assertLessEqual(node.end_lineno - node.lineno + 1, 40, (name, node.name))

    def test_module_level(self):
        for path, tree in TREES.items():
            for at, node in enumerate(tree.body):
                docstring = at == 0 and isinstance(node, ast.Expr) and isinstance(node.value, ast.Constant)
                plain = isinstance(node, (ast.ImportFrom, ast.FunctionDef, ast.ClassDef, ast.Assign))
                self.assertTrue(docstring or plain, (path, node.lineno))

    def test_no_name_is_bound_twice(self):
        for path, tree in TREES.items():
            bound = [alias.name for node in imported(tree) for alias in node.names]
            bound += [node.name for node in tree.body if isinstance(node, (ast.FunctionDef, ast.ClassDef))]
            bound += [node.targets[0].id for node in tree.body if isinstance(node, ast.Assign)]
            self.assertEqual(len(bound), len(set(bound)), path)


class Imports(unittest.TestCase):
    def test_every_import_names_the_file_that_defines_the_name(self):
        for path, tree in TREES.items():
            for node in imported(tree):
                names = {alias.name for alias in node.names}
                self.assertTrue(all(alias.asname is None for alias in node.names), path)
                self.assertEqual(node.level, 0)
                if node.module in LIBRARY:
                    self.assertLessEqual(names, LIBRARY[node.module], path)
                    continue
                package, _, file = node.module.partition(".")
                self.assertEqual(package, "fewchairs", path)
                above = TREES[PACKAGE / (file + ".py")].body
                defined = {found.name for found in above if isinstance(found, (ast.FunctionDef, ast.ClassDef))}
                defined |= {found.targets[0].id for found in above if isinstance(found, ast.Assign)}
                self.assertLessEqual(names, defined, (path, node.module))

    def test_every_import_is_used(self):
        for path, tree in TREES.items():
            used = {node.id for node in ast.walk(tree) if isinstance(node, ast.Name)}
            for node in imported(tree):
                for alias in node.names:
                    self.assertIn(alias.name, used, path)

    def test_no_files_import_from_each_other(self):
        above = {path.stem: {node.module.partition(".")[2] for node in imported(tree)}
                 for path, tree in TREES.items()}
        done = set()
        while len(done) < len(above):
            ready = {name for name in above if name not in done and above[name] & set(above) <= done}
            self.assertTrue(ready, sorted(set(above) - done))
            done |= ready

    def test_no_local_name_is_that_of_an_import_or_a_class(self):
        for path, tree in TREES.items():
            taken = {alias.name for node in imported(tree) for alias in node.names}
            taken |= {node.name for node in tree.body if isinstance(node, ast.ClassDef)}
            for node in ast.walk(tree):
                if isinstance(node, ast.Name) and isinstance(node.ctx, ast.Store):
                    self.assertNotIn(node.id, taken, (path, node.lineno))
                if isinstance(node, ast.arg):
                    self.assertNotIn(node.arg, taken, (path, node.lineno))


class Names(unittest.TestCase):
    def test_builtins(self):
        for path, tree in TREES.items():
            for node in ast.walk(tree):
                if isinstance(node, ast.Name) and node.id in ALL_BUILTINS:
                    self.assertIsInstance(node.ctx, ast.Load, (path, node.lineno))
                    self.assertIn(node.id, BUILTINS | DECORATORS, (path, node.lineno))
                if isinstance(node, ast.arg):
                    self.assertNotIn(node.arg, ALL_BUILTINS, (path, node.lineno))
                if isinstance(node, (ast.FunctionDef, ast.ClassDef)):
                    self.assertNotIn(node.name, ALL_BUILTINS, (path, node.lineno))

    def test_names_that_are_not_used(self):
        for name, node in nodes(ast.Name, ast.arg, ast.Attribute, ast.FunctionDef, ast.keyword):
            word = next(getattr(node, field) for field in ("id", "arg", "attr", "name") if hasattr(node, field))
            self.assertNotIn(word, NEVER | WORDS, name)
            if word.startswith("__") and word not in METHODS:
                self.fail((name, word))

    def test_decorators(self):
        for name, node in nodes(ast.FunctionDef):
            for decorator in node.decorator_list:
                setter = isinstance(decorator, ast.Attribute) and decorator.attr == "setter"
                self.assertTrue(setter or decorator.id in DECORATORS, (name, node.name))
        for name, node in nodes(ast.ClassDef):
            self.assertEqual(node.decorator_list, [], name)

    def test_a_property_has_no_name_of_a_method_or_an_attribute(self):
        properties, others = set(), set()
        for name, node in nodes(ast.ClassDef):
            for part in node.body:
                if isinstance(part, ast.FunctionDef):
                    decorators = [x.id for x in part.decorator_list if isinstance(x, ast.Name)]
                    setter = any(isinstance(x, ast.Attribute) for x in part.decorator_list)
                    (properties if "property" in decorators or setter else others).add(part.name)
                if isinstance(part, ast.Assign):
                    others |= {target.id for target in part.targets}
        others |= {part.attr for _, part in nodes(ast.Attribute) if isinstance(part.ctx, ast.Store)}
        self.assertEqual(properties & others, set())

    def test_no_method_and_no_attribute_of_one_class_share_a_name(self):
        for name, node in nodes(ast.ClassDef):
            # A property and its setter are one.
            methods = [part.name for part in node.body if isinstance(part, ast.FunctionDef)
                       and not any(isinstance(found, ast.Attribute) for found in part.decorator_list)]
            stored = {part.attr for part in ast.walk(node)
                      if isinstance(part, ast.Attribute) and isinstance(part.ctx, ast.Store)}
            self.assertEqual(stored & set(methods), set(), (name, node.name))
            self.assertEqual(len(methods), len(set(methods)), (name, node.name))


class Code(unittest.TestCase):
    def test_what_is_not_used(self):
        for name, node in nodes(ast.GeneratorExp, ast.Await, ast.AsyncFunctionDef, ast.Global, ast.Set,
                                ast.With, ast.NamedExpr):
            self.fail((name, node.lineno))
        for name, node in nodes(ast.Constant):
            self.assertNotIsInstance(node.value, (float, complex, bytes), (name, node.lineno))
            if isinstance(node.value, str):
                self.assertNotIn("%", node.value, (name, node.lineno))
        for name, node in nodes(ast.BinOp, ast.AugAssign):
            self.assertNotIsInstance(node.op, (ast.Div, ast.MatMult), (name, node.lineno))

    def test_only_own_errors_are_caught(self):
        own = {node.name for node in TREES[PACKAGE / "errors.py"].body if isinstance(node, ast.ClassDef)}
        for name, node in nodes(ast.Try):
            self.assertEqual(node.finalbody, [], (name, node.lineno))
            for handler in node.handlers:
                self.assertIn(handler.type.id, own, (name, node.lineno))

    def test_sets_stand_in_sorted_and_len(self):
        def is_set(node):
            made = isinstance(node, ast.Call) and isinstance(node.func, ast.Name) and node.func.id == "set"
            return made or isinstance(node, ast.SetComp)

        within = {id(argument) for _, node in nodes(ast.Call)
                  if isinstance(node.func, ast.Name) and node.func.id in ("sorted", "len")
                  for argument in node.args}
        for name, node in nodes(ast.Call, ast.SetComp):
            if is_set(node):
                self.assertIn(id(node), within, (name, node.lineno))

    def test_is_stands_beside_none(self):
        for name, node in nodes(ast.Compare):
            for operator, other in zip(node.ops, node.comparators):
                if isinstance(operator, (ast.Is, ast.IsNot)):
                    self.assertIsInstance(other, ast.Constant, (name, node.lineno))

    def test_raise_creates_its_error(self):
        for name, node in nodes(ast.Raise):
            self.assertIsInstance(node.exc, ast.Call, (name, node.lineno))
            self.assertIsInstance(node.exc.func, ast.Name, (name, node.lineno))

    def test_reversed_takes_a_list_or_a_range(self):
        for name, node in nodes(ast.Call):
            if isinstance(node.func, ast.Name) and node.func.id == "reversed":
                self.assertIn(node.args[0].func.id, ("list", "range", "tuple", "sorted"), (name, node.lineno))

    def test_every_function_has_a_docstring(self):
        for name, node in nodes(ast.FunctionDef):
            if not node.name.startswith("__"):
                self.assertIsNotNone(ast.get_docstring(node), (name, node.name))
        for path, tree in TREES.items():
            self.assertIsNotNone(ast.get_docstring(tree), path)


if __name__ == "__main__":
    unittest.main()
