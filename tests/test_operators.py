"""What L5 of ../shared/LANGUAGE.md asks of operators and properties, through all that they call.

Everything is found by its name: a call of `x.end(..)` leads to each method called `end`, and to each function
of that name. So more is looked at than ever runs, and never less.
"""

import ast
import builtins
import unittest

from tests.test_language import TREES

NO_OPERATORS = {"__call__", "__setitem__", "__enter__", "__exit__"}
CHANGING = set("""append clear extend insert pop remove reverse setdefault sort update add discard appendleft
    popleft extendleft rotate""".split())
MAKING = {"list", "dict", "set", "sorted"}
NEVER_CALLED = {"map", "chain", "product", "heappush", "heappop"}


def own_definitions(trees):
    """A dict from each name, and each name behind a dot, to the functions and methods that it may run."""
    found = {}
    for tree in trees:
        for node in tree.body:
            if isinstance(node, ast.FunctionDef):
                found.setdefault(node.name, []).append(node)
            if isinstance(node, ast.ClassDef):
                methods = [part for part in node.body if isinstance(part, ast.FunctionDef)]
                found.setdefault(node.name, []).extend(part for part in methods if part.name == "__init__")
                # A base class may bring the __init__ that runs.
                found[node.name] += [ast.Expr(base) for base in node.bases]
                for part in methods:
                    found.setdefault("." + part.name, []).append(part)
    return found


def is_property(function):
    return any(isinstance(found, ast.Name) and found.id == "property" for found in function.decorator_list)


def is_operator(function):
    name = function.name
    in_place = name.startswith("__i") and name != "__invert__"
    return name.startswith("__") and name.endswith("__") and not in_place and name not in NO_OPERATORS


def roots(trees):
    """The methods of operators, the properties, and __eq__, __len__, __str__ and __repr__."""
    return [part for tree in trees for node in tree.body if isinstance(node, ast.ClassDef)
            for part in node.body
            if isinstance(part, ast.FunctionDef) and (is_operator(part) or is_property(part))]


def used_names(node):
    names = {found.id for found in ast.walk(node) if isinstance(found, ast.Name)}
    return names | {"." + found.attr for found in ast.walk(node) if isinstance(found, ast.Attribute)}


def reached(trees):
    """All functions and methods that the roots lead to, themselves included."""
    definitions = own_definitions(trees)
    waiting, done = roots(trees), []
    while waiting:
        node = waiting.pop()
        if any(node is other for other in done):
            continue
        done.append(node)
        for name in sorted(used_names(node)):
            waiting += definitions.get(name, [])
    return [node for node in done if isinstance(node, ast.FunctionDef)]


def yields(function):
    return any(isinstance(node, (ast.Yield, ast.YieldFrom)) for node in ast.walk(function))


def made_here(function, name):
    """Whether the local name is only ever given a list, dict or set that the function makes itself."""
    arguments = {node.arg for node in ast.walk(function.args) if isinstance(node, ast.arg)}
    stores = [node for node in ast.walk(function)
              if isinstance(node, ast.Name) and node.id == name and isinstance(node.ctx, ast.Store)]
    values = [node.value for node in ast.walk(function) if isinstance(node, ast.Assign)
              and any(isinstance(target, ast.Name) and target.id == name for target in node.targets)]
    return (name not in arguments and len(stores) == len(values) > 0
            and all(is_making(value) for value in values))


def is_making(value):
    if isinstance(value, (ast.List, ast.Dict, ast.ListComp, ast.DictComp, ast.SetComp)):
        return True
    if isinstance(value, ast.Call):
        return isinstance(value.func, ast.Name) and value.func.id in MAKING
    if isinstance(value, ast.Subscript):
        return isinstance(value.slice, ast.Slice)
    return isinstance(value, ast.BinOp) and isinstance(value.op, ast.Mult) and isinstance(value.left, ast.List)


def changed(function):
    """What the function changes, as pairs of the node and the thing that is changed."""
    for node in ast.walk(function):
        if isinstance(node, (ast.Attribute, ast.Subscript)) and isinstance(node.ctx, (ast.Store, ast.Del)):
            yield node, node.value
        if isinstance(node, ast.Call) and isinstance(node.func, ast.Attribute) and node.func.attr in CHANGING:
            yield node, node.func.value


def may_change(function, node, thing):
    if not isinstance(thing, ast.Name):
        return False
    if isinstance(node, ast.Attribute) and isinstance(node.ctx, ast.Store):
        return function.name == "__init__" and thing.id == "self"
    return made_here(function, thing.id)


def calls_what_it_holds(function, definitions, imports):
    """The calls of something else than a builtin, an import, an own function or class, or a method."""
    plain = set(definitions) | imports | set(dir(builtins))
    local = {node.arg for node in ast.walk(function) if isinstance(node, ast.arg)}
    local |= {node.id for node in ast.walk(function)
              if isinstance(node, ast.Name) and isinstance(node.ctx, ast.Store)}
    for node in ast.walk(function):
        if isinstance(node, ast.Call):
            if not isinstance(node.func, (ast.Name, ast.Attribute)):
                yield node
            elif isinstance(node.func, ast.Name) and (node.func.id in local or node.func.id not in plain):
                yield node


def faults(trees):
    """What is wrong with the functions that operators and properties lead to, as pairs of name and fault."""
    definitions = own_definitions(trees)
    imports = {alias.name for tree in trees for node in tree.body if isinstance(node, ast.ImportFrom)
               for alias in node.names}
    for function in reached(trees):
        where = (function.name, function.lineno)
        if yields(function):
            yield where, "yields"
        for node, thing in changed(function):
            if not may_change(function, node, thing):
                yield where, "changes something"
        for node in ast.walk(function):
            if isinstance(node, ast.AugAssign) and not (isinstance(node.op, ast.Add)
                                                        and isinstance(node.value, ast.Constant)
                                                        and isinstance(node.value.value, int)
                                                        and isinstance(node.target, ast.Name)):
                yield where, "adds on"
            if isinstance(node, ast.Call) and isinstance(node.func, ast.Name) and node.func.id in NEVER_CALLED:
                yield where, node.func.id
            if isinstance(node, (ast.Global, ast.Nonlocal)):
                yield where, "binds outside"
        for node in calls_what_it_holds(function, definitions, imports):
            yield where, "calls what it holds"


def faults_in(code):
    return {(name, fault) for (name, _), fault in faults([ast.parse(code)])}


class Operators(unittest.TestCase):
    def test_operators_and_properties_change_nothing_and_reach_no_generator(self):
        self.assertEqual(list(faults(TREES.values())), [])

    def test_the_operators_are_found(self):
        names = {function.name for function in reached(TREES.values())}
        self.assertLessEqual({"__rshift__", "__eq__", "sure", "sitting", "__getitem__", "__init__", "end", "left",
                              "steps", "arrive", "meetings", "groups", "crowds", "part_list", "first_fault"}, names)
        self.assertNotIn("parts", names)
        self.assertNotIn("put", names)


class TheCheckItself(unittest.TestCase):
    """The check finds what it must find, also behind other functions."""

    def test_a_generator_behind_a_function_and_a_class(self):
        code = ("def rows(n):\n    yield n\n"
                "def all_rows(n):\n    return list(rows(n))\n"
                "class Base:\n    def __init__(self):\n        self.n = all_rows(1)\n"
                "class Box(Base):\n    def told(self):\n        return 1\n"
                "class Bag:\n    def __add__(self, other):\n        return Box()\n")
        self.assertEqual(faults_in(code), {("rows", "yields")})

    def test_a_change_behind_a_method(self):
        code = ("class Bag:\n"
                "    def __init__(self):\n        self.n = []\n"
                "    def put(self, x):\n        self.n.append(x)\n"
                "    @property\n    def many(self):\n        self.put(1)\n        return 1\n")
        self.assertEqual(faults_in(code), {("put", "changes something")})

    def test_a_change_of_an_argument(self):
        code = ("def put(xs):\n    xs[0] = 1\n    ys = xs\n    ys.append(1)\n    zs = [0] * 3\n    zs[1] = 2\n"
                "    self = 1\n    self.x = 1\n"
                "class Bag:\n    def __contains__(self, x):\n        return put(x)\n")
        self.assertEqual(list(faults([ast.parse(code)])), [(("put", 1), "changes something")] * 3)

    def test_a_call_of_what_it_holds(self):
        code = ("def run(f):\n    return f(1)\n"
                "def first(fs):\n    return fs[0](1)\n"
                "class Bag:\n    def __getitem__(self, at):\n        return run(at) + first(at)\n")
        self.assertEqual(faults_in(code), {("run", "calls what it holds"), ("first", "calls what it holds")})

    def test_adding_on_and_mapping(self):
        code = ("def run(xs):\n    n = 0\n    n += 1\n    n += xs\n    return list(map(abs, xs))\n"
                "class Bag:\n    def __eq__(self, other):\n        return run(self)\n")
        self.assertEqual(faults_in(code), {("run", "adds on"), ("run", "map")})

    def test_what_is_allowed(self):
        code = ("def run(xs):\n    ys = [x for x in xs]\n    ys.append(1)\n    return len(ys)\n"
                "def free(xs):\n    xs.append(1)\n    yield 1\n"
                "class Bag:\n    def __lt__(self, other):\n        return run(self)\n"
                "    def put(self):\n        return list(free(self))\n")
        self.assertEqual(faults_in(code), set())


if __name__ == "__main__":
    unittest.main()
