"""The files of the package keep to the small subset of Python that the project is written in."""

import ast
import builtins
import os
import unittest

import pushtells

FOLDER = os.path.dirname(pushtells.__file__)
LIBRARY = {"heapq": {"heappush", "heappop", "heapify", "heapreplace", "heappushpop"},
           "math": {"gcd", "lcm", "isqrt", "comb", "perm", "factorial"},
           "itertools": {"product", "combinations", "permutations"}}
BUILTINS = set("""len range enumerate zip min max sum abs sorted reversed int str bool list tuple dict set isinstance
ord repr any all divmod Exception""".split())
METHODS = set("""append clear copy count endswith extend find get index insert isalnum isalpha isdigit islower isspace
isupper items join keys ljust lower lstrip partition pop remove replace reverse rfind rjust rpartition rsplit rstrip
setdefault split splitlines startswith strip update upper values zfill bit_length add discard""".split())
NODES = (ast.Module, ast.FunctionDef, ast.ClassDef, ast.arguments, ast.arg, ast.Expr, ast.Assign, ast.AugAssign,
         ast.If, ast.While, ast.For, ast.Return, ast.Break, ast.Continue, ast.Pass, ast.Raise, ast.ImportFrom,
         ast.alias, ast.Constant, ast.Name, ast.Attribute, ast.Subscript, ast.Slice, ast.Call, ast.keyword, ast.List,
         ast.Tuple, ast.Dict, ast.Set, ast.ListComp, ast.SetComp, ast.DictComp, ast.comprehension, ast.BinOp,
         ast.JoinedStr, ast.FormattedValue, ast.UnaryOp, ast.BoolOp, ast.Compare, ast.IfExp, ast.Starred, ast.expr_context, ast.operator, ast.unaryop,
         ast.boolop, ast.cmpop)
BARRED = set("""mro elements open input law version_info with_traceback add_note register attrgetter breakpoint builtins
compile copyright credits delattr dir eval exec exit gc getattr globals hasattr help id importlib license locals
methodcaller os quit setattr super type vars sys""".split())
CHANGES = ("append", "clear", "extend", "insert", "pop", "remove", "reverse", "setdefault", "update")


def package_files():
    return sorted(name for name in os.listdir(FOLDER) if name.endswith(".py"))


def read(name):
    with open(os.path.join(FOLDER, name), encoding="utf-8") as file:
        return file.read()


TREES = {name: ast.parse(read(name)) for name in package_files()}


def nodes(kind):
    return [(name, node) for name, tree in TREES.items() for node in ast.walk(tree) if isinstance(node, kind)]


def functions():
    return nodes(ast.FunctionDef)


def parents(tree):
    return {child: node for node in ast.walk(tree) for child in ast.iter_child_nodes(node)}


def bound_names(function):
    """Parameters and all that is assigned in a function."""
    names = [arg.arg for arg in function.args.args]
    return names + [node.id for node in ast.walk(function) if isinstance(node, ast.Name) and
                    isinstance(node.ctx, ast.Store)]


def imports_of(tree):
    return [node for node in tree.body if isinstance(node, ast.ImportFrom)]


def is_set(node):
    if isinstance(node, (ast.Set, ast.SetComp)):
        return True
    return isinstance(node, ast.Call) and isinstance(node.func, ast.Name) and node.func.id == "set"


class LanguageTest(unittest.TestCase):
    def test_files(self):
        for name in package_files():
            text = read(name)
            self.assertTrue(all(char == "\n" or " " <= char <= "~" for char in text), name)
            self.assertLess(len(text.splitlines()), 400, name)
            self.assertLess(max(map(len, text.splitlines())), 121, name)
            self.assertEqual(name, name.lower())
            self.assertNotIn(name[:-3], dir(builtins))

    def test_functions_are_short(self):
        for name, node in functions():
            self.assertLess(node.end_lineno - node.lineno, 40, (name, node.name))
            self.assertFalse(node.decorator_list or node.args.vararg or node.args.kwarg or node.returns)

    def test_kinds_of_code(self):
        for name, tree in TREES.items():
            for node in ast.walk(tree):
                self.assertIsInstance(node, NODES, (name, getattr(node, "lineno", 0)))
                self.assertNotIsInstance(node, (ast.Div, ast.MatMult))
                if isinstance(node, ast.Constant):
                    self.assertIsInstance(node.value, (int, str, bool, type(None)))

    def test_module_level(self):
        for name, tree in TREES.items():
            bound = []
            for at, node in enumerate(tree.body):
                kinds = (ast.ImportFrom, ast.FunctionDef, ast.ClassDef, ast.Assign)
                doc = at == 0 and isinstance(node, ast.Expr) and isinstance(node.value.value, str)
                self.assertTrue(doc or isinstance(node, kinds), (name, node.lineno))
                if isinstance(node, ast.ImportFrom):
                    bound += [each.name for each in node.names]
                elif isinstance(node, ast.Assign):
                    bound += [target.id for target in node.targets]
                elif not doc:
                    bound.append(node.name)
            self.assertEqual(len(bound), len(set(bound)), name)

    def test_imports(self):
        ahead = {}
        for name, tree in TREES.items():
            ahead[name] = []
            used = {node.id for node in ast.walk(tree) if isinstance(node, ast.Name)}
            for node in imports_of(tree):
                names = [each.name for each in node.names]
                self.assertTrue(node.level == 0 and all(each.asname is None for each in node.names), name)
                self.assertEqual(set(names) - used, set(), name)
                if node.module in LIBRARY:
                    self.assertLessEqual(set(names), LIBRARY[node.module])
                    continue
                package, file = node.module.split(".")
                ahead[name].append(file + ".py")
                here = [part for part in TREES[file + ".py"].body if not isinstance(part, ast.ImportFrom)]
                defined = [part.name for part in here if isinstance(part, (ast.FunctionDef, ast.ClassDef))]
                defined += [part.targets[0].id for part in here if isinstance(part, ast.Assign)]
                self.assertEqual(package, "pushtells")
                self.assertLessEqual(set(names), set(defined), name)
        done = []
        while len(done) < len(ahead):
            free = [name for name in ahead if name not in done and set(ahead[name]) <= set(done)]
            self.assertTrue(free, "files import each other")
            done += free

    def test_every_function_is_used(self):
        from tests.test_interface import INTERFACE
        used = {node.id for _, node in nodes(ast.Name) if isinstance(node.ctx, ast.Load)}
        told = {name for names in INTERFACE.values() for name in names}
        for name, tree in TREES.items():
            for node in tree.body:
                if isinstance(node, (ast.FunctionDef, ast.ClassDef)) and name != "errors.py":
                    self.assertTrue(node.name in used | told, (name, node.name))

    def test_names(self):
        for name, tree in TREES.items():
            outside = [each.name for node in imports_of(tree) for each in node.names]
            outside += [node.name for node in tree.body if isinstance(node, ast.ClassDef)]
            for node in ast.walk(tree):
                if isinstance(node, ast.FunctionDef):
                    names = bound_names(node)
                    self.assertFalse(set(names) & set(outside), (name, node.name))
                    self.assertFalse((set(names) | {node.name}) & set(dir(builtins)) - {"__init__"}, (name, node.name))
                    self.assertFalse((set(names) | {node.name}) & BARRED, (name, node.name))
                if isinstance(node, ast.FunctionDef) and node.name.startswith("__"):
                    self.assertIn(node.name, ("__init__", "__eq__"))
                if isinstance(node, ast.Name) and node.id in dir(builtins):
                    self.assertIn(node.id, BUILTINS | {"__name__"}, (name, node.lineno))
                if isinstance(node, ast.Name) and node.id == "_":
                    self.assertIsInstance(node.ctx, ast.Store)

    def test_methods_of_values(self):
        own = {part.name for _, kind in nodes(ast.ClassDef) for part in kind.body if isinstance(part, ast.FunctionDef)}
        for name, node in nodes(ast.Call):
            if isinstance(node.func, ast.Attribute):
                self.assertIn(node.func.attr, METHODS | own, (name, node.lineno))
                self.assertFalse(node.keywords, (name, node.lineno))

    def test_exponents_and_strings(self):
        for name, node in nodes(ast.BinOp):
            if isinstance(node.op, ast.Pow):
                self.assertIsInstance(node.right, ast.Constant)
        for name, node in nodes(ast.Constant):
            if isinstance(node.value, str):
                self.assertNotIn("%", node.value)

    def test_sets(self):
        """Measured, sorted, compared or asked where they stand, or kept in one variable that is only asked."""
        for name, tree in TREES.items():
            above = parents(tree)
            for node in ast.walk(tree):
                if not is_set(node):
                    continue
                parent = above[node]
                if isinstance(parent, ast.Assign):
                    self.assertIsInstance(parent.targets[0], ast.Name)
                elif isinstance(parent, ast.Call):
                    self.assertIn(parent.func.id, ("len", "sorted"), (name, node.lineno))
                    self.assertFalse(parent.keywords)
                else:
                    self.assertIsInstance(parent, ast.Compare, (name, node.lineno))
        for name, function in functions():
            kept = [node.targets[0].id for node in ast.walk(function) if isinstance(node, ast.Assign)
                    and is_set(node.value)]
            for each in kept:
                self.assertEqual(bound_names(function).count(each), 1, (name, function.name))
                self.check_kept(name, function, each)

    def check_kept(self, name, function, kept):
        above = parents(function)
        for node in ast.walk(function):
            if isinstance(node, ast.Name) and node.id == kept and isinstance(node.ctx, ast.Load):
                parent = above[node]
                asked = isinstance(parent, ast.Compare) and isinstance(parent.ops[0], (ast.In, ast.NotIn))
                changed = isinstance(parent, ast.Attribute) and parent.attr in ("add", "discard")
                counted = isinstance(parent, ast.Call) and parent.func.id in ("len", "sorted")
                self.assertTrue(asked or changed or counted, (name, function.name, kept))

    def test_loops_leave_alone_what_they_go_over(self):
        for name, loop in nodes(ast.For):
            over = [node.id for node in ast.walk(loop.iter) if isinstance(node, ast.Name)]
            for node in [part for row in loop.body for part in ast.walk(row)]:
                if isinstance(node, ast.Call) and isinstance(node.func, ast.Attribute):
                    if node.func.attr in CHANGES and isinstance(node.func.value, ast.Name):
                        self.assertNotIn(node.func.value.id, over, (name, node.lineno))
                if isinstance(node, ast.Subscript) and isinstance(node.ctx, (ast.Store, ast.Del)):
                    held = node.value
                    while isinstance(held, ast.Subscript):
                        held = held.value
                    self.assertNotIn(getattr(held, "id", None), over, (name, node.lineno))

    def test_iterators_are_used_at_once(self):
        """zip, enumerate, reversed and views stand where they are gone over."""
        for name, tree in TREES.items():
            above = parents(tree)
            for node in ast.walk(tree):
                if not isinstance(node, ast.Call):
                    continue
                own = isinstance(node.func, ast.Name) and node.func.id in ("zip", "enumerate", "reversed", "range")
                view = isinstance(node.func, ast.Attribute) and node.func.attr in ("items", "keys", "values")
                if own or view:
                    parent = above[node]
                    once = isinstance(parent, (ast.For, ast.comprehension)) and parent.iter is node
                    call = isinstance(parent, ast.Call) and parent.func.id in ("list", "tuple", "dict", "sorted",
                                                                                       "enumerate")
                    self.assertTrue(once or call, (name, node.lineno))

    def test_errors_are_made_where_they_are_raised(self):
        for name, node in nodes(ast.Raise):
            self.assertTrue(isinstance(node.exc, ast.Call) and node.exc.func.id[0].isupper() and node.cause is None)


if __name__ == "__main__":
    unittest.main()
