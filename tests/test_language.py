"""The rules for the code of the package that can be checked by looking at it."""

import ast
import builtins
import io
import re
import tokenize
import unittest
from pathlib import Path

PACKAGE = Path(__file__).resolve().parent.parent / "lineorigins"
FILES = sorted(path for path in PACKAGE.rglob("*") if "__pycache__" not in path.parts)
LIBRARY = {"math": {"gcd", "lcm", "isqrt", "comb", "perm", "factorial"}}
BUILTINS = set(
    "len range enumerate zip min max sum abs sorted reversed int str bool bytes list tuple dict set isinstance ord "
    "repr any all divmod property staticmethod classmethod iter next super Exception ValueError TypeError KeyError "
    "IndexError LookupError ZeroDivisionError ArithmeticError OverflowError RuntimeError NotImplementedError "
    "AttributeError StopIteration NotImplemented True False None".split())
METHODS = set(
    "append clear copy count endswith extend find get index insert isalnum isalpha isdigit islower isspace isupper "
    "items join keys ljust lower lstrip partition pop remove replace reverse rfind rjust rpartition rsplit rstrip "
    "setdefault split splitlines startswith strip update upper values zfill bit_length add discard title capitalize "
    "swapcase casefold center expandtabs removeprefix removesuffix rindex isascii isdecimal".split())
DOUBLE = set(
    "init eq repr str len enter exit call iter lt le gt ge ne add sub mul floordiv mod pow and or xor lshift rshift "
    "radd rsub rmul rfloordiv rmod rand ror rxor rlshift rrshift iadd isub imul neg pos invert abs bool contains "
    "getitem setitem".split())
STATEMENTS = (
    ast.FunctionDef, ast.ClassDef, ast.Assign, ast.AugAssign, ast.AnnAssign, ast.If, ast.While, ast.For, ast.Return,
    ast.Break, ast.Continue, ast.Pass, ast.Raise, ast.Assert, ast.Delete, ast.With, ast.Try, ast.Expr, ast.Import,
    ast.ImportFrom)
BARRED = set(
    "type typing typing_extensions enum Enum IntEnum StrEnum Flag IntFlag Generic Protocol ABC ABCMeta namedtuple "
    "NamedTuple TypedDict TYPE_CHECKING abstractmethod dataclass overload contextmanager".split())
BARRED_NAMES = (
    r"\A_(wall|pe_|dcw_|enum_|cm_|twin_re_|lay_|law_|stub_|sre)"
    r"|\A_(cold|tuplegetter|outside|record|written_out|member_names)[0-9_]*\Z")
UNUSED_NAMES = set(
    "register mro elements open input law version_info with_traceback add_note attrgetter breakpoint builtins compile "
    "delattr dir eval exec exit gc globals help id importlib license locals methodcaller os quit type vars".split())


TREES = {path: ast.parse(path.read_text()) for path in FILES}


def all_nodes(*kinds):
    for path, tree in TREES.items():
        for node in ast.walk(tree):
            if isinstance(node, kinds):
                yield path, node


def methods_of(tree):
    return [item for node in ast.walk(tree) if isinstance(node, ast.ClassDef) for item in node.body
            if isinstance(item, ast.FunctionDef)]


def bound_names(tree):
    """The names of variables, parameters, functions, classes and imports."""
    methods = methods_of(tree)
    for node in ast.walk(tree):
        if isinstance(node, ast.Name) and not isinstance(node.ctx, ast.Load):
            yield node.id
        elif isinstance(node, ast.arg):
            yield node.arg
        elif isinstance(node, ast.ClassDef) or isinstance(node, ast.FunctionDef) and node not in methods:
            yield node.name
        elif isinstance(node, ast.ExceptHandler) and node.name:
            yield node.name
        elif isinstance(node, ast.alias):
            yield node.asname or node.name


def docstrings(tree):
    for node in ast.walk(tree):
        if isinstance(node, (ast.Module, ast.ClassDef, ast.FunctionDef)) and node.body:
            first = node.body[0]
            if isinstance(first, ast.Expr) and isinstance(first.value, ast.Constant):
                yield first.value


def own_methods():
    return {item.name for tree in TREES.values() for item in methods_of(tree)}


class TestFiles(unittest.TestCase):

    def test_only_python_files(self):
        for path in FILES:
            self.assertRegex(path.name, r"^[a-z0-9_]+\.py$")
        self.assertIn(PACKAGE / "__init__.py", FILES)
        self.assertLessEqual(len(FILES), 100)

    def test_characters_and_sizes(self):
        for path in FILES:
            text = path.read_text()
            self.assertRegex(text, r"\A[ -~\n]*\Z", path.name)
            rows = text.splitlines()
            self.assertLessEqual(len(rows), 399, path.name)
            self.assertLessEqual(max(map(len, rows)), 120, path.name)

    def test_function_sizes(self):
        for path, node in all_nodes(ast.FunctionDef):
            self.assertLessEqual(node.end_lineno - node.lineno + 1, 40, f"{path.name} {node.name}")

    def test_words(self):
        for path, tree in TREES.items():
            text = path.read_text()
            self.assertNotRegex(text, r"\(type\)|Meta|metaclass=", path.name)
            passed_over = list(docstrings(tree))
            words = [token.string for token in tokenize.generate_tokens(io.StringIO(text).readline)
                     if token.type == tokenize.NAME]
            for node in ast.walk(tree):
                if isinstance(node, ast.Constant) and isinstance(node.value, str) and node not in passed_over:
                    words.extend(re.findall(r"\w+", node.value))
            self.assertFalse(BARRED & set(words), path.name)


class TestImports(unittest.TestCase):

    def test_forms(self):
        for path, tree in TREES.items():
            for node in ast.walk(tree):
                self.assertNotIsInstance(node, ast.Import)
                if isinstance(node, ast.ImportFrom):
                    self.assertIn(node, tree.body)
                    self.assertEqual(node.level, 0)
                    self.check_names(path, node)

    def check_names(self, path, node):
        names = {alias.name for alias in node.names}
        self.assertTrue(all(alias.asname is None for alias in node.names))
        if node.module in LIBRARY:
            self.assertLessEqual(names, LIBRARY[node.module])
            return
        package, _, module = node.module.partition(".")
        self.assertEqual(package, "lineorigins", path.name)
        tree = TREES[PACKAGE / f"{module}.py"]
        own = {item.name for item in tree.body if isinstance(item, (ast.FunctionDef, ast.ClassDef))}
        own |= {target.id for item in tree.body if isinstance(item, ast.Assign) for target in item.targets}
        self.assertLessEqual(names, own, f"{path.name} {node.module}")

    def test_imports_stand_at_the_top_and_are_used(self):
        for path, tree in TREES.items():
            kinds = [isinstance(node, ast.ImportFrom) for node in tree.body if not isinstance(node, ast.Expr)]
            self.assertEqual(kinds, sorted(kinds, reverse=True), path.name)
            used = {node.id for node in ast.walk(tree) if isinstance(node, ast.Name)}
            imported = {alias.name for node in tree.body if isinstance(node, ast.ImportFrom) for alias in node.names}
            self.assertLessEqual(imported, used, path.name)

    def test_no_cycles(self):
        links = {path.stem: [node.module.partition(".")[2] for node in tree.body if isinstance(node, ast.ImportFrom)
                             and node.module.startswith("lineorigins")] for path, tree in TREES.items()}
        while links:
            free = [name for name, needed in links.items() if not any(other in links for other in needed)]
            self.assertTrue(free, links)
            links = {name: needed for name, needed in links.items() if name not in free}


class TestStatements(unittest.TestCase):

    def test_module_level(self):
        for path, tree in TREES.items():
            for node in tree.body:
                if isinstance(node, ast.Assign):
                    ast.literal_eval(node.value)
                else:
                    kinds = (ast.ImportFrom, ast.FunctionDef, ast.ClassDef)
                    self.assertTrue(isinstance(node, kinds) or node is tree.body[0], path.name)

    def test_kinds(self):
        for path, node in all_nodes(ast.stmt):
            self.assertIsInstance(node, STATEMENTS, f"{path.name} {node.lineno}")

    def test_decorators(self):
        for path, node in all_nodes(ast.FunctionDef, ast.ClassDef):
            names = [ast.unparse(one) for one in node.decorator_list]
            self.assertLessEqual(len(names), 1)
            for name in names:
                self.assertTrue(name in ("property", "staticmethod", "classmethod") or name.endswith(".setter"))

    def test_double_underscores(self):
        for path, tree in TREES.items():
            methods = methods_of(tree)
            for node in ast.walk(tree):
                if isinstance(node, ast.FunctionDef) and node.name.startswith("__"):
                    self.assertIn(node.name.strip("_"), DOUBLE)
                    self.assertIn(node, methods)
                if isinstance(node, ast.Attribute):
                    self.assertFalse(node.attr.startswith("__"), f"{path.name} {node.attr}")

    def test_comparing_methods_assign_nothing(self):
        for path, function in all_nodes(ast.FunctionDef):
            if function.name in ("__eq__", "__len__", "__repr__", "__str__"):
                for node in ast.walk(function):
                    self.assertNotIsInstance(node, (ast.Assign, ast.AugAssign, ast.NamedExpr))

    def test_ends_of_blocks(self):
        """Only assignments of plain attributes, and the one question whether there was an error."""
        seen = 0
        for path, function in all_nodes(ast.FunctionDef):
            if function.name == "__exit__":
                seen += 1
                self.assertEqual([item.arg for item in function.args.args], ["self", "kind", "value", "trace"])
                for node in ast.walk(function):
                    if isinstance(node, ast.stmt):
                        self.assertIsInstance(node, (ast.FunctionDef, ast.Assign, ast.If), path.name)
                    if isinstance(node, ast.If):
                        self.assertEqual(ast.unparse(node.test), "kind is not None")
                    if isinstance(node, ast.Assign):
                        self.assertRegex(ast.unparse(node), r"\A[a-z]+(\._?[a-z_]+)? = self\._?[a-z_]+\Z")
        self.assertEqual(seen, 1)

    def test_caught_errors(self):
        for path, node in all_nodes(ast.ExceptHandler):
            self.assertIsInstance(node.type, ast.Name)
            self.assertTrue(node.type.id == "KeyError" or not hasattr(builtins, node.type.id))

    def test_raised_errors_are_made_on_the_spot(self):
        for path, node in all_nodes(ast.Raise):
            self.assertTrue(node.exc is None or isinstance(node.exc, ast.Call) and isinstance(node.exc.func, ast.Name))


class TestExpressions(unittest.TestCase):

    def test_no_fractions_and_generator_expressions(self):
        for path, node in all_nodes(ast.Div, ast.GeneratorExp, ast.Await, ast.Set):
            self.fail(f"{path.name} {node}")
        for path, node in all_nodes(ast.Constant):
            self.assertNotIsInstance(node.value, (float, complex))

    def test_no_percent_sign_and_no_strange_escape(self):
        for path, node in all_nodes(ast.Constant):
            if isinstance(node.value, str):
                self.assertNotIn("%", node.value)
        for path in FILES:
            self.assertEqual(re.findall(r"\\[^n\\'\"]", path.read_text()), [], path.name)

    def test_identity(self):
        for path, node in all_nodes(ast.Compare):
            for sign, right in zip(node.ops, node.comparators):
                if isinstance(sign, (ast.Is, ast.IsNot)):
                    self.assertIsInstance(right, ast.Constant, f"{path.name} {node.lineno}")

    def test_builtins(self):
        known = set(dir(builtins))
        for path, tree in TREES.items():
            for node in ast.walk(tree):
                if isinstance(node, ast.Name) and node.id in known:
                    self.assertIn(node.id, BUILTINS, f"{path.name} {node.lineno}")
            for name in bound_names(tree):
                self.assertNotIn(name, known | UNUSED_NAMES, path.name)
                self.assertRegex(name, r"\A_?[A-Za-z][A-Za-z0-9_]*\Z|\A_\Z", path.name)
                self.assertNotRegex(name, BARRED_NAMES, path.name)

    def test_names_of_classes_and_imports_are_kept(self):
        for path, tree in TREES.items():
            taken = {node.name for node in tree.body if isinstance(node, ast.ClassDef)}
            taken |= {alias.name for node in tree.body if isinstance(node, ast.ImportFrom) for alias in node.names}
            for node in ast.walk(tree):
                if isinstance(node, ast.arg):
                    self.assertNotIn(node.arg, taken, path.name)
                if isinstance(node, ast.Name) and isinstance(node.ctx, ast.Store):
                    self.assertNotIn(node.id, taken, path.name)

    def test_methods(self):
        allowed = METHODS | own_methods()
        for path, node in all_nodes(ast.Call):
            if isinstance(node.func, ast.Attribute):
                self.assertIn(node.func.attr, allowed, f"{path.name} {node.lineno}")
        self.assertNotIn("sort", allowed)

    def test_sorted_takes_plain_numbers_and_strings(self):
        for path, node in all_nodes(ast.Call):
            if isinstance(node.func, ast.Name) and node.func.id in ("sorted", "min", "max"):
                inner = node.args[0].elt if isinstance(node.args[0], ast.ListComp) else node.args[0]
                plain = isinstance(inner, ast.Call) and ast.unparse(inner.func) in ("int", "str", "len", "range")
                self.assertTrue(plain, f"{path.name} {node.lineno}")

    def test_properties_and_methods_have_different_names(self):
        properties, methods, attributes = set(), set(), set()
        for _, cls in all_nodes(ast.ClassDef):
            for item in cls.body:
                if isinstance(item, ast.FunctionDef):
                    found = [ast.unparse(one).removesuffix(f"{item.name}.setter") for one in item.decorator_list]
                    (properties if found in (["property"], [""]) else methods).add(item.name)
        for _, node in all_nodes(ast.Attribute):
            if isinstance(node.ctx, ast.Store):
                attributes.add(node.attr)
        self.assertFalse(properties & methods)
        self.assertFalse(properties & METHODS)
        self.assertFalse(properties & attributes)
        for _, node in all_nodes(ast.Call):
            if isinstance(node.func, ast.Attribute):
                self.assertNotIn(node.func.attr, properties)


class TestIteration(unittest.TestCase):

    def generators(self):
        return {node.name: node for _, node in all_nodes(ast.FunctionDef)
                if any(isinstance(inner, (ast.Yield, ast.YieldFrom)) for inner in ast.walk(node))}

    def test_generators_are_iterated_at_once(self):
        names = set(self.generators())
        self.assertTrue(names)
        for path, tree in TREES.items():
            calls = [node for node in ast.walk(tree)
                     if isinstance(node, ast.Call) and isinstance(node.func, ast.Name) and node.func.id in names]
            used = [node for node in ast.walk(tree) if isinstance(node, ast.Name) and node.id in names]
            self.assertEqual(len(used), len(calls), path.name)
            iterated = [node.iter for node in ast.walk(tree) if isinstance(node, (ast.For, ast.comprehension))]
            iterated += [node.value for node in ast.walk(tree) if isinstance(node, ast.YieldFrom)]
            for call in calls:
                self.assertIn(call, iterated, f"{path.name} {call.lineno}")
                for item in call.args:
                    self.assertIsInstance(item, (ast.Name, ast.Attribute, ast.Constant), f"{path.name} {call.lineno}")

    def test_generators_have_names_of_their_own(self):
        functions = [node.name for _, node in all_nodes(ast.FunctionDef)]
        for name, node in self.generators().items():
            self.assertEqual(functions.count(name), 1)
            self.assertEqual(node.decorator_list, [])
            yields = [inner for inner in ast.walk(node) if isinstance(inner, (ast.Yield, ast.YieldFrom))]
            rows = [inner.value for inner in ast.walk(node) if isinstance(inner, ast.Expr)]
            self.assertTrue(all(inner in rows for inner in yields), name)

    def test_reversed_takes_lists_and_ranges(self):
        for path, node in all_nodes(ast.Call):
            if isinstance(node.func, ast.Name) and node.func.id == "reversed":
                self.assertIn(ast.unparse(node.args[0]).partition("(")[0], ("list", "tuple", "range"), path.name)

    def test_sets_are_measured_compared_or_asked_at_once(self):
        for path, tree in TREES.items():
            at_once = []
            for node in ast.walk(tree):
                if isinstance(node, ast.Call) and isinstance(node.func, ast.Name) and node.func.id == "len":
                    at_once.extend(node.args)
                if isinstance(node, ast.Compare):
                    at_once.extend([node.left, *node.comparators])
            for node in ast.walk(tree):
                if isinstance(node, ast.Call) and isinstance(node.func, ast.Name) and node.func.id == "set":
                    self.assertIn(node, at_once, f"{path.name} {node.lineno}")
                self.assertNotIsInstance(node, ast.SetComp)

    def test_no_one_iterates_over_what_it_changes(self):
        changing = {"append", "extend", "insert", "pop", "remove", "clear", "reverse", "update", "setdefault"}
        for path, loop in all_nodes(ast.For):
            subject = loop.iter
            while isinstance(subject, (ast.Call, ast.Subscript)):
                inner = subject.func if isinstance(subject, ast.Call) else subject.value
                if isinstance(inner, ast.Name) and isinstance(subject, ast.Call):
                    if inner.id not in ("enumerate", "zip", "reversed"):
                        break
                    inner = subject.args[0]
                subject = inner.value if isinstance(inner, ast.Attribute) else inner
            name = ast.unparse(subject)
            for node in ast.walk(loop):
                where = f"{path.name} {node.lineno}" if hasattr(node, "lineno") else path.name
                if isinstance(node, ast.Call) and isinstance(node.func, ast.Attribute) and node.func.attr in changing:
                    self.assertNotEqual(ast.unparse(node.func.value), name, where)
                if isinstance(node, ast.Subscript) and isinstance(node.ctx, (ast.Store, ast.Del)):
                    self.assertNotEqual(ast.unparse(node.value), name, where)

    def test_properties_only_return(self):
        for path, cls in all_nodes(ast.ClassDef):
            for item in cls.body:
                if isinstance(item, ast.FunctionDef) and "property" in [ast.unparse(one) for one in item.decorator_list]:
                    for node in ast.walk(item):
                        self.assertNotIsInstance(node, (ast.Assign, ast.AugAssign), f"{path.name} {item.name}")
                        if isinstance(node, ast.Call):
                            self.assertIn(ast.unparse(node.func), ("len", "str", "tuple"), f"{path.name} {item.name}")
