"""The form of the package's files: the mechanical part of the rules of the language."""

import ast
import builtins
import itertools
import pathlib
import re
import unittest

import loopsheds

FOLDER = pathlib.Path(loopsheds.__file__).parent
BUILTINS = set("""len range enumerate zip min max sum abs sorted reversed int str bool bytes list tuple dict set
frozenset isinstance ord repr any all divmod pow getattr hasattr setattr iter next map super property classmethod
staticmethod Exception ValueError TypeError KeyError IndexError LookupError ZeroDivisionError ArithmeticError
OverflowError RuntimeError NotImplementedError AttributeError StopIteration NotImplemented True False None""".split())
METHODS = set("""append clear copy count endswith extend find get index insert isalnum isalpha isdigit islower isspace
isupper items join keys ljust lower lstrip partition pop remove replace reverse rfind rjust rpartition rsplit rstrip
setdefault split splitlines startswith strip update upper values zfill bit_length add discard""".split())
CHANGING = set("append clear extend insert pop remove reverse setdefault update add discard sort".split())
SPECIAL = set("""__init__ __repr__ __str__ __len__ __enter__ __exit__ __call__ __iter__ __add__ __sub__ __mul__
__and__ __or__ __xor__ __radd__ __rsub__ __rmul__ __neg__ __invert__ __bool__ __contains__ __getitem__ __setitem__
__iadd__""".split())
OPERATORS = SPECIAL - {"__init__", "__call__", "__iter__", "__enter__", "__exit__", "__setitem__", "__iadd__"}
LIBRARY = {"heapq": {"heappush", "heappop", "heapify"}, "math": {"gcd", "lcm", "isqrt", "comb", "perm", "factorial"}}
NO_ATTRIBUTES = set("""items keys values pop update append clear extend insert remove reverse setdefault sort args
encode decode hex fromhex format""".split())
BARRED = set("register mro elements open input law version_info with_traceback add_note".split())
BARRED_WORDS = re.compile(r"\b(typing|enum|Enum|Generic|Protocol|ABC|namedtuple|NamedTuple|TypedDict|type)\b")


def files():
    return sorted(path for path in FOLDER.rglob("*") if "__pycache__" not in path.parts and path.is_file())


def trees():
    return [(path, ast.parse(path.read_text())) for path in files()]


def functions(tree):
    return [node for node in ast.walk(tree) if isinstance(node, ast.FunctionDef)]


def bound_names(tree):
    for node in ast.walk(tree):
        if isinstance(node, ast.Name) and isinstance(node.ctx, ast.Store):
            yield node.id
        elif isinstance(node, ast.arg):
            yield node.arg
        elif isinstance(node, (ast.FunctionDef, ast.ClassDef)):
            yield node.name


def imported(tree):
    return {alias.name for node in tree.body if isinstance(node, ast.ImportFrom) for alias in node.names}


class FormTest(unittest.TestCase):
    def test_files(self):
        for path in files():
            self.assertEqual(path.suffix, ".py")
            text = path.read_bytes()
            self.assertTrue(all(sign == 10 or 32 <= sign <= 126 for sign in text), path)
            lines = text.decode().splitlines()
            self.assertLessEqual(len(lines), 399, path)
            self.assertLessEqual(max(map(len, lines)), 120, path)

    def test_functions_are_short(self):
        for path, tree in trees():
            for node in functions(tree):
                self.assertLessEqual(node.end_lineno - node.lineno + 1, 40, (path, node.name))

    def test_imports(self):
        for path, tree in trees():
            for node in ast.walk(tree):
                self.assertNotIsInstance(node, ast.Import, path)
                if isinstance(node, ast.ImportFrom):
                    self.assertIn(node, tree.body)
                    self.assertEqual(node.level, 0)
                    self.assertTrue(all(alias.asname is None and alias.name != "*" for alias in node.names))
                    if node.module in LIBRARY:
                        self.assertLessEqual({alias.name for alias in node.names}, LIBRARY[node.module])
                        continue
                    self.assertTrue(node.module.startswith("loopsheds."), path)
                    source = ast.parse((FOLDER / (node.module.split(".")[1] + ".py")).read_text())
                    names = {name for part in source.body for name in self.names_of(part)}
                    self.assertLessEqual({alias.name for alias in node.names}, names, path)

    def names_of(self, node):
        if isinstance(node, (ast.FunctionDef, ast.ClassDef)):
            return [node.name]
        return [target.id for target in node.targets] if isinstance(node, ast.Assign) else []

    def test_imports_are_used_and_make_no_ring(self):
        wanted = {}
        for path, tree in trees():
            used = {node.id for node in ast.walk(tree) if isinstance(node, ast.Name)}
            self.assertLessEqual(imported(tree), used, path)
            wanted["loopsheds." + path.stem] = {node.module for node in tree.body if isinstance(node, ast.ImportFrom)}
        done = set()
        while len(done) < len(wanted):
            ready = {name for name in wanted if name not in done and not (wanted[name] & set(wanted)) - done}
            self.assertTrue(ready, "files import from each other")
            done |= ready

    def test_module_level(self):
        allowed = (ast.ImportFrom, ast.FunctionDef, ast.ClassDef)
        for path, tree in trees():
            names = []
            for node in tree.body:
                if isinstance(node, ast.Expr):
                    self.assertIsInstance(node.value, ast.Constant)
                elif isinstance(node, ast.Assign):
                    self.assertEqual(len(node.targets), 1)
                    self.check_plain(node.value, names)
                else:
                    self.assertIsInstance(node, allowed, path)
                names.extend(self.names_of(node))
            self.assertEqual(len(names), len(set(names)), path)

    def check_plain(self, value, names):
        """Plain values, and dicts from such to functions that are defined above."""
        if isinstance(value, ast.Dict) and all(isinstance(part, ast.Name) for part in value.values):
            self.assertLessEqual({part.id for part in value.values}, set(names))
        else:
            ast.literal_eval(value)

    def test_names(self):
        for path, tree in trees():
            classes = {node.name for node in tree.body if isinstance(node, ast.ClassDef)}
            inner = set(bound_names(tree)) - classes
            self.assertFalse(inner & imported(tree), path)
            for name in set(bound_names(tree)):
                self.assertNotIn(name, BUILTINS | BARRED, path)
                self.assertFalse(name.startswith("__") and name not in SPECIAL, (path, name))
                self.assertFalse(name in dir(builtins) and name not in SPECIAL, (path, name))
            for name in classes:
                self.assertTrue(name[0].isalpha())

    def test_used_names_exist(self):
        for path, tree in trees():
            known = set(bound_names(tree)) | imported(tree) | BUILTINS
            for node in ast.walk(tree):
                if isinstance(node, ast.Name):
                    self.assertIn(node.id, known, (path, node.lineno))
                    self.assertFalse(node.id == "_" and isinstance(node.ctx, ast.Load), path)

    def test_statements(self):
        barred = (ast.Global, ast.AsyncFunctionDef, ast.AugAssign, ast.Div, ast.Await, ast.Lambda)
        own = {node.name for _, tree in trees() for node in tree.body if isinstance(node, ast.ClassDef)}
        for path, tree in trees():
            for node in ast.walk(tree):
                self.assertNotIsInstance(node, barred, (path, getattr(node, "lineno", 0)))
                if isinstance(node, ast.Try):
                    self.assertFalse(node.finalbody, path)
                    self.assertTrue(all(handler.type.id in own for handler in node.handlers), path)
                if isinstance(node, ast.Starred) and isinstance(node.ctx, ast.Load):
                    self.assertNotIsInstance(node.value, ast.GeneratorExp, path)
                if isinstance(node, ast.Call):
                    for part in node.args:
                        if isinstance(part, ast.Starred):
                            self.assertIsInstance(part.value, (ast.Name, ast.Attribute), (path, node.lineno))
                if isinstance(node, (ast.Is, ast.IsNot)):
                    continue
                if isinstance(node, ast.Compare) and isinstance(node.ops[0], (ast.Is, ast.IsNot)):
                    self.assertIsInstance(node.comparators[0], ast.Constant)
                if isinstance(node, ast.Constant):
                    self.assertNotIsInstance(node.value, (float, complex))
                    if isinstance(node.value, str):
                        self.assertNotIn("%", node.value)
                if isinstance(node, ast.FunctionDef):
                    for decorator in node.decorator_list:
                        self.assertIn(decorator.id, ("property", "classmethod", "staticmethod"))

    def test_words(self):
        for path, tree in trees():
            docstrings = {id(node.value) for node in ast.walk(tree)
                          if isinstance(node, ast.Expr) and isinstance(node.value, ast.Constant)}
            for node in ast.walk(tree):
                if isinstance(node, ast.Constant) and isinstance(node.value, str) and id(node) not in docstrings:
                    self.assertIsNone(BARRED_WORDS.search(node.value), path)
                if isinstance(node, ast.Name):
                    self.assertIsNone(BARRED_WORDS.search(node.id), path)

    def test_methods(self):
        own = {node.name for _, tree in trees() for node in functions(tree)}
        for path, tree in trees():
            for node in ast.walk(tree):
                if isinstance(node, ast.Call) and isinstance(node.func, ast.Attribute):
                    self.assertIn(node.func.attr, METHODS | own, (path, node.lineno))
                    if node.func.attr in METHODS - own:
                        self.assertFalse(node.keywords, (path, node.lineno))

    def test_sets_are_measured_only(self):
        for path, tree in trees():
            held = [node for node in ast.walk(tree) if isinstance(node, (ast.Set, ast.SetComp))]
            self.assertFalse(held, path)
            calls = [node for node in ast.walk(tree) if isinstance(node, ast.Call)]
            fine = {id(node.args[0]) for node in calls if node.args and getattr(node.func, "id", "") in ("len", "sorted")}
            for node in calls:
                if getattr(node.func, "id", "") == "set":
                    self.assertIn(id(node), fine, (path, node.lineno))

    def test_properties_are_no_attributes(self):
        properties = set()
        for _, tree in trees():
            for node in functions(tree):
                if any(getattr(decorator, "id", "") == "property" for decorator in node.decorator_list):
                    properties.add(node.name)
        methods = {part.name for _, tree in trees() for node in ast.walk(tree) if isinstance(node, ast.ClassDef)
                   for part in node.body if isinstance(part, ast.FunctionDef)}
        for path, tree in trees():
            for node in ast.walk(tree):
                if isinstance(node, ast.Attribute) and isinstance(node.ctx, ast.Store):
                    self.assertNotIn(node.attr, properties | methods | NO_ATTRIBUTES, (path, node.lineno))


class PurityTest(unittest.TestCase):
    """Operators and properties, and all that they call, change only what they made themselves."""

    def setUp(self):
        self.bodies = {}
        roots = []
        for path, tree in trees():
            for node in functions(tree):
                self.bodies.setdefault(node.name, []).append((path, node))
                is_property = any(getattr(one, "id", "") == "property" for one in node.decorator_list)
                if node.name in OPERATORS or is_property:
                    roots.append(node.name)
            for node in ast.walk(tree):
                if isinstance(node, ast.ClassDef):
                    inits = [part for part in node.body if getattr(part, "name", "") == "__init__"]
                    self.bodies.setdefault(node.name, []).extend((path, part) for part in inits)
        self.reached = []
        waiting = list(roots)
        while waiting:
            name = waiting.pop()
            if name in self.reached:
                continue
            self.reached.append(name)
            for _, node in self.bodies.get(name, []):
                waiting.extend(self.called(node))

    def called(self, node):
        for part in ast.walk(node):
            if isinstance(part, ast.Call):
                name = getattr(part.func, "id", None) or getattr(part.func, "attr", None)
                if name in self.bodies:
                    yield name

    def made(self, function):
        """The local names that are only ever assigned what the function makes itself."""
        fine, wrong = set(), {arg.arg for arg in function.args.args}
        for node in ast.walk(function):
            if isinstance(node, ast.Assign):
                for target in node.targets:
                    if isinstance(target, ast.Name):
                        (fine if self.is_made(node.value) else wrong).add(target.id)
                    elif isinstance(target, ast.Tuple):
                        wrong |= {part.id for part in ast.walk(target) if isinstance(part, ast.Name)}
            elif isinstance(node, (ast.For, ast.comprehension)):
                wrong |= {part.id for part in ast.walk(node.target) if isinstance(part, ast.Name)}
        return fine - wrong

    def is_made(self, value):
        if isinstance(value, (ast.List, ast.Dict, ast.ListComp, ast.DictComp)):
            return True
        if isinstance(value, ast.Subscript):
            return isinstance(value.slice, ast.Slice)
        if isinstance(value, ast.Call):
            name = getattr(value.func, "id", "")
            return name in ("list", "dict", "sorted", "Region", "Poly", "Count")
        return False

    def test_pure(self):
        self.assertIn("tightened", self.reached)
        for name in self.reached:
            for path, function in self.bodies.get(name, []):
                self.check(path, function)

    def check(self, path, function):
        made = self.made(function)
        found = {node.targets[0].value.id for node in ast.walk(function) if isinstance(node, ast.Assign)
                 and isinstance(node.targets[0], ast.Subscript) and isinstance(node.value, (ast.List, ast.Dict))}
        for node in ast.walk(function):
            where = (path.name, function.name, getattr(node, "lineno", 0))
            if isinstance(node, (ast.Yield, ast.YieldFrom, ast.Delete, ast.Lambda)):
                self.fail(where)
            if isinstance(node, ast.Subscript) and isinstance(node.ctx, ast.Store):
                self.assertIn(getattr(node.value, "id", ""), made, where)
            if isinstance(node, ast.Attribute) and isinstance(node.ctx, ast.Store):
                self.assertTrue(function.name == "__init__" or node.value.id in made, where)
            if isinstance(node, ast.Call) and isinstance(node.func, ast.Attribute) and node.func.attr in CHANGING:
                inner = node.func.value
                if isinstance(inner, ast.Subscript):
                    self.assertIn(inner.value.id, found & made, where)
                elif isinstance(inner, ast.Call):
                    self.assertEqual(inner.func.attr, "setdefault", where)
                    self.assertIn(inner.func.value.id, made, where)
                else:
                    self.assertIn(getattr(inner, "id", ""), made, where)


class WalkTest(unittest.TestCase):
    """What a loop goes over is not changed in it, under none of the names that the function gives it."""

    def test_walked_lists_stay(self):
        for path, tree in trees():
            for function in functions(tree):
                groups = self.groups(function)
                for node in ast.walk(function):
                    for walked, inner in self.walks(node):
                        names = {name for one in walked for name in groups.get(one, {one})}
                        for part in inner:
                            changed = self.changed(part)
                            self.assertFalse(names & changed, (path.name, function.name, node.lineno, changed))

    def groups(self, function):
        """For each name the names that may be the same thing, by plain assignments."""
        found = {}
        for node in ast.walk(function):
            if isinstance(node, ast.Assign):
                for target in node.targets:
                    ones = [ast.unparse(part) for part in self.choices(target)]
                    others = [ast.unparse(part) for part in self.choices(node.value)
                              if isinstance(part, (ast.Name, ast.Attribute))]
                    for one, other in itertools.product(ones, others):
                        both = found.get(one, {one}) | found.get(other, {other})
                        found.update((name, both) for name in both)
        return found

    def choices(self, value):
        if isinstance(value, ast.IfExp):
            return [*self.choices(value.body), *self.choices(value.orelse)]
        if isinstance(value, ast.BoolOp):
            return [part for one in value.values for part in self.choices(one)]
        return [value]

    def walks(self, node):
        if isinstance(node, ast.For):
            yield self.walked(node.iter), [part for row in node.body for part in ast.walk(row)]
        elif isinstance(node, (ast.ListComp, ast.DictComp, ast.GeneratorExp)):
            names = [name for one in node.generators for name in self.walked(one.iter)]
            yield names, list(ast.walk(node))

    def walked(self, value):
        if isinstance(value, ast.Call):
            inner = list(value.args) if getattr(value.func, "id", "") in ("enumerate", "zip", "reversed") else []
            if getattr(value.func, "attr", "") in ("items", "keys", "values"):
                inner = [value.func.value]
            return [name for part in inner for name in self.walked(part)]
        return [ast.unparse(part) for part in self.choices(value) if isinstance(part, (ast.Name, ast.Attribute))]

    def changed(self, node):
        if isinstance(node, ast.Call) and isinstance(node.func, ast.Attribute) and node.func.attr in CHANGING:
            return {ast.unparse(node.func.value)}
        if isinstance(node, ast.Call) and getattr(node.func, "id", "").startswith("heap") and node.args:
            return {ast.unparse(node.args[0])}
        if isinstance(node, ast.Subscript) and isinstance(node.ctx, (ast.Store, ast.Del)):
            return {ast.unparse(node.value)}
        return set()


if __name__ == "__main__":
    unittest.main()
