"""The rules of LANGUAGE.md that can be checked by reading the files of the package.

This is a net with wide meshes: it finds slips, it does not prove that a file keeps all rules.
"""

import ast
import builtins
import functools
import os
import re
import unittest

PACKAGE = "landedback"
FOLDER = os.path.join(os.path.dirname(os.path.dirname(os.path.abspath(__file__))), PACKAGE)

LIBRARY = {"heapq": {"heappush", "heappop", "heapify", "heapreplace", "heappushpop"},
           "math": {"gcd", "lcm", "isqrt", "comb", "perm", "factorial"},
           "itertools": {"product", "combinations", "permutations"}}

BUILTINS = set("""len range enumerate zip min max sum abs sorted reversed int str bool bytes list tuple dict set
    frozenset isinstance ord repr any all divmod iter next map super property staticmethod classmethod Exception
    ValueError TypeError KeyError IndexError LookupError ZeroDivisionError ArithmeticError OverflowError RuntimeError
    NotImplementedError AttributeError StopIteration NotImplemented""".split())

DUNDERS = set("""__init__ __eq__ __repr__ __str__ __len__ __enter__ __exit__ __call__ __iter__ __lt__ __le__ __gt__
    __ge__ __ne__ __add__ __sub__ __mul__ __floordiv__ __mod__ __pow__ __and__ __or__ __xor__ __neg__ __abs__
    __bool__ __contains__ __getitem__ __setitem__""".split())

METHODS = set("""append clear copy count endswith extend find get index insert isalnum isalpha isdigit islower isspace
    isupper items join keys ljust lower lstrip partition pop remove replace reverse rfind rjust rpartition rsplit
    rstrip setdefault split splitlines startswith strip update upper values zfill bit_length add discard isascii
    sort""".split())

BANNED_NAMES = set("""register mro elements open input law version_info with_traceback add_note attrgetter breakpoint
    builtins compile copyright credits delattr dir eval exec exit gc getattr globals hasattr help id importlib license
    locals methodcaller os quit setattr type vars _cold _tuplegetter _outside _record _written_out
    _member_names""".split())

BANNED_ATTRIBUTES = set("""items keys values pop update append clear extend insert remove reverse setdefault sort args
    encode decode hex fromhex format format_map mro""".split())

BANNED_STARTS = ("_wall", "_pe_", "_dcw_", "_enum_", "_cm_", "_twin_re_", "_lay_", "_law_", "_stub_", "_sre")

STATEMENTS = (ast.Assign, ast.AugAssign, ast.If, ast.While, ast.For, ast.Return, ast.Break, ast.Continue, ast.Pass,
              ast.Raise, ast.Assert, ast.Delete, ast.Nonlocal, ast.Try, ast.With, ast.Match, ast.FunctionDef,
              ast.Expr)

PLAIN = (ast.Constant, ast.Tuple, ast.List, ast.Dict, ast.UnaryOp, ast.USub, ast.Load, ast.Name)


def files():
    return sorted(os.listdir(FOLDER))


def text_of(name):
    with open(os.path.join(FOLDER, name), "rb") as file:
        return file.read()


@functools.lru_cache
def trees():
    return {name[:-3]: ast.parse(text_of(name).decode("ascii")) for name in files() if name.endswith(".py")}


def classes():
    return {node.name: node for tree in trees().values() for node in tree.body if isinstance(node, ast.ClassDef)}


def own_methods():
    return {node.name for one in classes().values() for node in one.body if isinstance(node, ast.FunctionDef)}


def strings(tree):
    """The strings of a file but its docstrings."""
    docs = set()
    for node in ast.walk(tree):
        if isinstance(node, (ast.Module, ast.ClassDef, ast.FunctionDef)) and ast.get_docstring(node) is not None:
            docs.add(node.body[0].value)
    return [node.value for node in ast.walk(tree)
            if isinstance(node, ast.Constant) and isinstance(node.value, str) and node not in docs]


def parents(tree):
    return {child: node for node in ast.walk(tree) for child in ast.iter_child_nodes(node)}


class Files(unittest.TestCase):

    def test_plain_files(self):
        self.assertIn("__init__.py", files())
        for name in files():
            if name != "__pycache__":
                self.assertRegex(name, r"\A(__init__|[a-z][a-z0-9_]*)\.py\Z")
        self.assertLessEqual(len(files()), 100)

    def test_characters_and_sizes(self):
        for name in trees():
            lines = text_of(name + ".py").decode("ascii").split("\n")
            self.assertLessEqual(len(lines), 399, name)
            for line in lines:
                self.assertLessEqual(len(line), 120, (name, line))
                self.assertRegex(line, r"\A[ -~]*\Z", name)

    def test_functions_are_short(self):
        for name, tree in trees().items():
            for node in ast.walk(tree):
                if isinstance(node, ast.FunctionDef):
                    self.assertLessEqual(node.end_lineno - node.lineno + 1, 40, (name, node.name))

    def test_words(self):
        for name, tree in trees().items():
            text = text_of(name + ".py").decode("ascii")
            for word in ("(type)", "Meta", "metaclass=", "dataclass", "overload", "contextmanager", "_WallAttr"):
                self.assertNotIn(word, text, name)
            for told in strings(tree):
                self.assertNotIn("%", told)
                self.assertFalse(told.endswith(("._", ".__")))
                self.assertNotIn("__", told)


class Modules(unittest.TestCase):

    def test_imports(self):
        known = trees()
        edges = {}
        for name, tree in known.items():
            edges[name] = []
            over = False
            for node in tree.body[1:] if ast.get_docstring(tree) is not None else tree.body:
                if not isinstance(node, ast.ImportFrom):
                    over = True
                    continue
                self.assertFalse(over, (name, "an import stands too late"))
                self.assertEqual(node.level, 0)
                if node.module in LIBRARY:
                    self.assertLessEqual({alias.name for alias in node.names}, LIBRARY[node.module])
                    continue
                package, module = node.module.split(".")
                self.assertEqual(package, PACKAGE)
                defined = self.defined(known[module])
                for alias in node.names:
                    self.assertIsNone(alias.asname)
                    self.assertIn(alias.name, defined, (name, module))
                edges[name].append(module)
            nested = [node for node in ast.walk(tree) if isinstance(node, (ast.Import, ast.ImportFrom))]
            self.assertEqual(len(nested), len([n for n in tree.body if isinstance(n, ast.ImportFrom)]), name)
        self.no_ring(edges)

    def defined(self, tree):
        found = set()
        for node in tree.body:
            if isinstance(node, (ast.FunctionDef, ast.ClassDef)):
                found.add(node.name)
            elif isinstance(node, ast.Assign):
                found.add(node.targets[0].id)
        return found

    def no_ring(self, edges):
        left = dict(edges)
        while left:
            free = [name for name in left if not [one for one in left[name] if one in left]]
            self.assertTrue(free, ("files import from each other", sorted(left)))
            for name in free:
                del left[name]

    def test_imports_are_used(self):
        for name, tree in trees().items():
            used = {node.id for node in ast.walk(tree) if isinstance(node, ast.Name)}
            for node in tree.body:
                if isinstance(node, ast.ImportFrom):
                    for alias in node.names:
                        self.assertIn(alias.name, used, name)

    def test_module_level(self):
        for name, tree in trees().items():
            bound = []
            for at, node in enumerate(tree.body):
                if isinstance(node, ast.ImportFrom):
                    bound += [alias.name for alias in node.names]
                elif isinstance(node, (ast.FunctionDef, ast.ClassDef)):
                    bound.append(node.name)
                    self.assertEqual(node.decorator_list, [])
                elif isinstance(node, ast.Assign):
                    self.assertEqual(len(node.targets), 1)
                    bound.append(node.targets[0].id)
                    for part in ast.walk(node.value):
                        self.assertIsInstance(part, PLAIN, (name, ast.dump(part)))
                        inner = [item for item in ast.walk(part) if item is not part]
                        if isinstance(part, (ast.Tuple, ast.List, ast.Dict)):
                            self.assertFalse([item for item in inner if isinstance(item, (ast.List, ast.Dict))])
                else:
                    self.assertTrue(at == 0 and ast.get_docstring(tree) is not None, (name, ast.dump(node)))
            self.assertEqual(len(bound), len(set(bound)), name)


class Code(unittest.TestCase):

    def each(self):
        for name, tree in trees().items():
            for node in ast.walk(tree):
                yield name, tree, node

    def test_statements(self):
        allowed = STATEMENTS + (ast.ClassDef, ast.ImportFrom)
        for name, _, node in self.each():
            if isinstance(node, ast.stmt):
                self.assertIsInstance(node, allowed, (name, ast.dump(node)))

    def test_expressions(self):
        for name, _, node in self.each():
            where = (name, getattr(node, "lineno", None))
            self.assertNotIsInstance(node, (ast.GeneratorExp, ast.Await, ast.Div, ast.MatMult, ast.Set), where)
            if isinstance(node, ast.Constant):
                self.assertIsInstance(node.value, (int, str, bytes, type(None)), where)
            if isinstance(node, ast.Compare):
                for sign, right in zip(node.ops, node.comparators):
                    if isinstance(sign, (ast.Is, ast.IsNot)):
                        self.assertIsInstance(right, ast.Constant, where)

    def test_names(self):
        for name, tree, node in self.each():
            if isinstance(node, ast.Name):
                told = [node.id]
            elif isinstance(node, ast.arg):
                told = [node.arg]
            elif isinstance(node, (ast.FunctionDef, ast.ClassDef)):
                told = [node.name]
            else:
                continue
            for one in told:
                self.assertNotIn(one, BANNED_NAMES, name)
                self.assertFalse(one.startswith(BANNED_STARTS), (name, one))
                self.assertTrue(not one.startswith("__") or one in DUNDERS, (name, one))

    def test_builtins(self):
        every = set(dir(builtins)) - {"_"}
        for name, _, node in self.each():
            if isinstance(node, ast.Name) and node.id in every:
                self.assertIn(node.id, BUILTINS, name)
                self.assertIsInstance(node.ctx, ast.Load, (name, node.id))
            if isinstance(node, ast.arg):
                self.assertNotIn(node.arg, every, name)
            if isinstance(node, ast.FunctionDef) and node.name in every:
                self.assertNotIn(node.name, BUILTINS, name)

    def test_locals_are_no_imports_and_no_classes(self):
        for name, tree in trees().items():
            taken = {node.name for node in tree.body if isinstance(node, ast.ClassDef)}
            for node in tree.body:
                if isinstance(node, ast.ImportFrom):
                    taken |= {alias.name for alias in node.names}
            for node in ast.walk(tree):
                if isinstance(node, ast.arg):
                    self.assertNotIn(node.arg, taken, name)
                if isinstance(node, ast.Name) and isinstance(node.ctx, ast.Store):
                    self.assertNotIn(node.id, taken, name)

    def test_sets(self):
        for name, tree in trees().items():
            above = parents(tree)
            for node in ast.walk(tree):
                is_call = isinstance(node, ast.Call) and isinstance(node.func, ast.Name) and node.func.id == "set"
                if is_call or isinstance(node, ast.SetComp):
                    up = above[node]
                    while isinstance(up, ast.BinOp):
                        up = above[up]
                    told = isinstance(up, ast.Call) and up.func.id in ("sorted", "len")
                    stored = isinstance(up, ast.Assign) and isinstance(up.targets[0], ast.Name)
                    self.assertTrue(told or stored or isinstance(up, ast.Compare), (name, node.lineno))

    def test_methods_that_are_called(self):
        own = own_methods()
        for name, _, node in self.each():
            if isinstance(node, ast.Call) and isinstance(node.func, ast.Attribute):
                told = node.func.attr
                self.assertTrue(told in METHODS or told in own, (name, node.lineno, told))
                if told in METHODS and told not in own:
                    self.assertEqual(node.keywords, [], (name, node.lineno))

    def test_attributes(self):
        stored = {node.attr for _, _, node in self.each()
                  if isinstance(node, ast.Attribute) and isinstance(node.ctx, ast.Store)}
        self.assertFalse(stored & BANNED_ATTRIBUTES)
        for name, _, node in self.each():
            if isinstance(node, ast.Attribute) and isinstance(node.ctx, ast.Load):
                known = node.attr in stored | METHODS | own_methods() or node.attr == "__init__"
                self.assertTrue(known, (name, node.lineno, node.attr))

    def test_classes(self):
        for name, one in classes().items():
            methods = [node.name for node in one.body if isinstance(node, ast.FunctionDef)]
            self.assertEqual(len(methods), len(set(methods)), name)
            stored = {node.attr for node in ast.walk(one)
                      if isinstance(node, ast.Attribute) and isinstance(node.ctx, ast.Store)}
            self.assertFalse(stored & set(methods), name)
            for node in one.body:
                if isinstance(node, ast.FunctionDef):
                    for decorator in node.decorator_list:
                        self.assertIn(decorator.id, ("property", "staticmethod"))
            if "__getitem__" in methods:
                self.assertIn("__iter__", methods)

    def test_no_method_is_also_an_attribute(self):
        stored = {node.attr for _, _, node in self.each()
                  if isinstance(node, ast.Attribute) and isinstance(node.ctx, ast.Store)}
        self.assertFalse(stored & own_methods())

    def test_generators(self):
        above = {name: parents(tree) for name, tree in trees().items()}
        for name, _, node in self.each():
            if isinstance(node, (ast.Yield, ast.YieldFrom)):
                up = above[name][node]
                self.assertIsInstance(up, ast.Expr, name)
                while not isinstance(up, ast.FunctionDef):
                    self.assertNotIsInstance(up, (ast.Try, ast.With), (name, node.lineno))
                    up = above[name][up]

    def test_raises(self):
        for name, _, node in self.each():
            if isinstance(node, ast.Raise) and node.exc is not None:
                self.assertTrue(isinstance(node.exc, ast.Call) and isinstance(node.exc.func, ast.Name), name)
            if isinstance(node, ast.ExceptHandler):
                self.assertIsNotNone(node.type, name)

    def test_finally(self):
        for name, _, node in self.each():
            if isinstance(node, ast.Try):
                for one in node.finalbody:
                    self.assertIsInstance(one, (ast.Assign, ast.If, ast.Pass), name)
                    self.assertFalse([part for part in ast.walk(one) if isinstance(part, ast.Call)], name)

    def test_sizes_are_told_plainly(self):
        for name, one in classes().items():
            for node in one.body:
                if isinstance(node, ast.FunctionDef) and node.name == "__len__":
                    self.assertRegex(ast.unparse(node), r"\Adef __len__\(self\):\n    return len\(self\.\w+\)\Z", name)
                if isinstance(node, ast.FunctionDef) and node.name == "__eq__":
                    self.assertTrue(re.search(r"return isinstance\(other, " + name, ast.unparse(node)), name)


if __name__ == "__main__":
    unittest.main()
