"""The package keeps to the subset of the language that the project allows."""

import ast
import builtins
import io
import re
import tokenize
import unittest
import warnings
from pathlib import Path

PACKAGE = Path(__file__).resolve().parent.parent / "leadrules"
LIBRARY = {"math": {"gcd", "lcm", "isqrt", "comb", "perm", "factorial"},
           "itertools": {"product", "combinations", "permutations"}}
BUILTINS = set("""len range enumerate zip min max sum abs sorted reversed int str bool list tuple dict set isinstance
 ord repr any all divmod map iter next Exception ValueError TypeError KeyError IndexError LookupError ZeroDivisionError
 ArithmeticError OverflowError RuntimeError NotImplementedError AttributeError StopIteration NotImplemented property
 classmethod staticmethod super""".split())
METHODS = set("""append clear copy count endswith extend find get index insert isalnum isalpha isdigit islower isspace
 isupper items join keys ljust lower lstrip partition pop remove replace reverse rfind rjust rpartition rsplit rstrip
 setdefault split splitlines startswith strip update upper values zfill bit_length""".split())
DOUBLE = {"__init__", "__eq__", "__repr__", "__str__", "__len__", "__call__", "__contains__", "__enter__", "__exit__"}
BARRED = set("""register mro elements open input law version_info with_traceback add_note attrgetter breakpoint builtins
 compile copyright credits delattr dir eval exec exit gc getattr globals hasattr help id importlib license locals
 methodcaller os quit setattr vars sys format format_map _cold _outside _record""".split())
WORDS = re.compile(r"\b(type|typing|typing_extensions|enum|Enum|IntEnum|StrEnum|Flag|IntFlag|Generic|Protocol|ABC|ABCMeta"
                   r"|namedtuple|NamedTuple|TypedDict|TYPE_CHECKING|abstractmethod)\b|dataclass|overload|contextmanager")
# A doctest that ran ahead in the same process leaves its last value as _ there.
OF_PYTHON = set(dir(builtins)) - {"_"}
STATEMENTS = (ast.Assign, ast.AugAssign, ast.If, ast.While, ast.For, ast.Return, ast.Break, ast.Continue, ast.Pass,
              ast.Raise, ast.Assert, ast.Delete, ast.Expr, ast.FunctionDef, ast.ClassDef, ast.ImportFrom, ast.Try,
              ast.With)
BARRED_NODES = (ast.Lambda, ast.GeneratorExp, ast.Yield, ast.YieldFrom, ast.Global, ast.Nonlocal, ast.Await,
                ast.NamedExpr, ast.AnnAssign, ast.Match, ast.Import, ast.Div, ast.Set)
MODIFYING = {"append", "clear", "extend", "insert", "pop", "remove", "reverse", "setdefault", "update"}


def files():
    return sorted(PACKAGE.rglob("*.py"))


def assigned(node):
    """All names that are parameters of a function or are assigned in it."""
    names = [argument.arg for argument in node.args.args]
    return names + [part.id for part in ast.walk(node) if isinstance(part, ast.Name) and isinstance(part.ctx, ast.Store)]


def functions_of(node):
    """The functions directly in a class."""
    return [row for row in node.body if isinstance(row, ast.FunctionDef)]


class Language(unittest.TestCase):
    def each(self, check):
        for path in files():
            text = path.read_text(encoding="utf-8")
            with self.subTest(file=path.name):
                check(path, text, ast.parse(text))

    def test_files(self):
        kinds = {path.suffix for path in PACKAGE.rglob("*") if path.is_file() and "__pycache__" not in path.parts}
        self.assertEqual(kinds, {".py"})
        for path in files():
            self.assertRegex(path.name, r"^[a-z_]+\.py$")
            self.assertNotIn(path.stem, set(dir(builtins)) | {"test", "tests", "testing", "site", "conftest"})

    def test_lines_and_characters(self):
        def check(path, text, tree):
            lines = text.split("\n")
            self.assertLessEqual(len(lines), 399)
            self.assertTrue(all(len(line) <= 120 and line == line.rstrip() for line in lines))
            self.assertTrue(all(character == "\n" or " " <= character <= "~" for character in text))
            self.assertNotRegex(text, r"_wall|_WallAttr")
            for node in ast.walk(tree):
                if isinstance(node, ast.FunctionDef):
                    self.assertLessEqual(node.end_lineno - node.lineno + 1, 40, node.name)

        self.each(check)

    def test_imports(self):
        bound = {path.stem: {node.name for node in ast.parse(path.read_text()).body
                             if isinstance(node, (ast.FunctionDef, ast.ClassDef))}
                 | {node.targets[0].id for node in ast.parse(path.read_text()).body if isinstance(node, ast.Assign)}
                 for path in files()}
        edges = {}

        def check(path, text, tree):
            for node in ast.walk(tree):
                self.assertNotIsInstance(node, ast.Import)
                if isinstance(node, ast.ImportFrom):
                    self.assertIn(node, tree.body)
                    self.assertEqual(node.level, 0)
                    names = {name.name for name in node.names}
                    self.assertTrue(all(name.asname is None for name in node.names))
                    if node.module in LIBRARY:
                        self.assertLessEqual(names, LIBRARY[node.module])
                        self.check_only_called(tree, names)
                    else:
                        package, short = node.module.split(".")
                        self.assertEqual(package, "leadrules")
                        self.assertLessEqual(names, bound[short])
                        self.assertTrue(all(self.is_used(tree, name) for name in names), (path.name, names))
                        edges.setdefault(path.stem, set()).add(short)

        self.each(check)
        self.check_no_ring(edges)

    def is_used(self, tree, name):
        return any(isinstance(node, ast.Name) and node.id == name for node in ast.walk(tree))

    def check_only_called(self, tree, names):
        called = [node.func for node in ast.walk(tree) if isinstance(node, ast.Call)]
        for node in ast.walk(tree):
            if isinstance(node, ast.Name) and node.id in names:
                self.assertTrue(any(node is function for function in called))

    def check_no_ring(self, edges):
        left = dict(edges)
        while left:
            free = [name for name in left if not any(other in left for other in left[name])]
            self.assertTrue(free, left)
            for name in free:
                del left[name]

    def test_module_level(self):
        def check(path, text, tree):
            for place, node in enumerate(tree.body):
                docstring = place == 0 and isinstance(node, ast.Expr) and isinstance(node.value, ast.Constant)
                self.assertTrue(docstring or isinstance(node, (ast.ImportFrom, ast.FunctionDef, ast.ClassDef, ast.Assign)))
                if isinstance(node, ast.Assign):
                    self.assertEqual(len(node.targets), 1)
                    self.assertIsInstance(node.targets[0], ast.Name)
                    ast.literal_eval(node.value)
                if isinstance(node, ast.FunctionDef):
                    self.assertEqual(node.decorator_list, [])
            names = [node.name for node in tree.body if isinstance(node, (ast.FunctionDef, ast.ClassDef))]
            names += [node.targets[0].id for node in tree.body if isinstance(node, ast.Assign)]
            names += [name.name for node in tree.body if isinstance(node, ast.ImportFrom) for name in node.names]
            self.assertEqual(len(names), len(set(names)))

        self.each(check)

    def test_statements_and_expressions(self):
        def check(path, text, tree):
            starred = self.right_stars(tree)
            for node in ast.walk(tree):
                self.assertNotIsInstance(node, BARRED_NODES)
                if isinstance(node, ast.stmt):
                    self.assertIsInstance(node, STATEMENTS)
                if isinstance(node, ast.Starred):
                    self.assertIn(node, starred)
                if isinstance(node, ast.Constant):
                    self.assertNotIsInstance(node.value, (float, complex, bytes))
                    self.assertNotIn("%", node.value if isinstance(node.value, str) else "")
                if isinstance(node, ast.Compare) and any(isinstance(sign, (ast.Is, ast.IsNot)) for sign in node.ops):
                    self.assertIsInstance(node.comparators[0], ast.Constant)
                if isinstance(node, ast.FunctionDef):
                    self.assertIsNone(node.returns)
                    self.assertFalse(node.args.kwarg or node.args.kwonlyargs or node.args.posonlyargs)
                    if node.args.vararg:
                        self.assertEqual([argument.arg for argument in node.args.args], ["self"])
                if isinstance(node, ast.Dict):
                    self.assertTrue(all(key is not None or isinstance(value, ast.Name)
                                        for key, value in zip(node.keys, node.values)))

        self.each(check)

    def right_stars(self, tree):
        """The stars that stand alone in a call, or first in a tuple, over a name or an attribute off one."""
        calls = [node.args for node in ast.walk(tree) if isinstance(node, ast.Call) and len(node.args) == 1]
        tuples = [node.elts for node in ast.walk(tree) if isinstance(node, ast.Tuple) and isinstance(node.ctx, ast.Load)]
        firsts = [parts[0] for parts in calls + tuples if parts and isinstance(parts[0], ast.Starred)]
        return [star for star in firsts if re.fullmatch(r"\*\w+(\.\w+)?", ast.unparse(star))]

    def test_own_errors_are_caught_alone(self):
        own = {node.name for node in ast.parse((PACKAGE / "errors.py").read_text()).body if isinstance(node, ast.ClassDef)}

        def check(path, text, tree):
            for node in ast.walk(tree):
                if isinstance(node, ast.Try):
                    self.assertEqual(node.finalbody, [])
                    for handler in node.handlers:
                        told = handler.type.elts if isinstance(handler.type, ast.Tuple) else [handler.type]
                        self.assertLessEqual({error.id for error in told}, own)

        self.each(check)

    def test_with_stands_over_own_objects(self):
        holding = {node.name for path in files() for node in ast.parse(path.read_text()).body
                   if isinstance(node, ast.ClassDef) and "__enter__" in {row.name for row in functions_of(node)}}

        def check(path, text, tree):
            for node in ast.walk(tree):
                if isinstance(node, ast.With):
                    for item in node.items:
                        self.assertIn(item.context_expr.func.id, holding)
                if isinstance(node, ast.FunctionDef) and node.name == "__exit__":
                    for row in node.body:
                        self.assertRegex(ast.unparse(row), r"^(self(\.\w+)+ = self(\.\w+)+|pass|return None)$")

        self.each(check)

    def test_methods_properties_and_attributes_have_names_of_their_own(self):
        classes = {node.name: node for path in files() for node in ast.parse(path.read_text()).body
                   if isinstance(node, ast.ClassDef)}
        properties = {row.name for node in classes.values() for row in functions_of(node)
                      if any(getattr(mark, "id", "") == "property" for mark in row.decorator_list)}
        methods = {row.name for node in classes.values() for row in functions_of(node)
                   if row.name not in properties}
        self.assertFalse(properties & methods)

        def check(path, text, tree):
            for node in ast.walk(tree):
                if isinstance(node, ast.Attribute) and isinstance(node.ctx, ast.Store):
                    self.assertNotIn(node.attr, properties)

        self.each(check)
        for name, node in classes.items():
            chain = [node] + [classes[base.id] for base in node.bases if base.id in classes]
            known = {row.name for one in chain for row in functions_of(one)}
            stored = {part.attr for one in chain for part in ast.walk(one)
                      if isinstance(part, ast.Attribute) and isinstance(part.ctx, ast.Store)}
            self.assertFalse(known & stored, name)

    def test_names(self):
        def check(path, text, tree):
            classes = {node.name for node in tree.body if isinstance(node, ast.ClassDef)}
            imports = {name.name for node in tree.body if isinstance(node, ast.ImportFrom) for name in node.names}
            functions = {node.name for node in tree.body if isinstance(node, ast.FunctionDef)}
            for node in ast.walk(tree):
                if isinstance(node, ast.FunctionDef):
                    if node.name.startswith("__"):
                        self.assertIn(node.name, DOUBLE)
                    for name in assigned(node):
                        self.assertFalse(name in classes | imports | functions | BARRED | OF_PYTHON, name)
                        self.assertFalse(name.startswith("__"))
                if isinstance(node, (ast.FunctionDef, ast.ClassDef)):
                    self.assertFalse(node.name in BARRED | OF_PYTHON)
                    self.assertNotRegex(node.name, r"^_(wall|pe_|dcw_|enum_|cm_|twin_re_|lay_|law_|stub_|sre)")
            tokens = tokenize.generate_tokens(io.StringIO(text).readline)
            code = " ".join(token.string for token in tokens if token.type not in (tokenize.COMMENT, tokenize.STRING))
            self.assertIsNone(WORDS.search(code))

        self.each(check)

    def test_builtins_and_methods(self):
        own = {node.name for path in files() for node in ast.walk(ast.parse(path.read_text()))
               if isinstance(node, ast.FunctionDef)}

        def check(path, text, tree):
            for node in ast.walk(tree):
                if isinstance(node, ast.Name) and node.id in OF_PYTHON:
                    self.assertIn(node.id, BUILTINS)
                if isinstance(node, ast.Call) and isinstance(node.func, ast.Attribute):
                    self.assertIn(node.func.attr, METHODS | own)
                    self.assertTrue(node.func.attr in own or not node.keywords)

        self.each(check)

    def test_iterated_at_once(self):
        """range, zip, enumerate, reversed and views stand where they are iterated, or a range alone is kept."""
        def check(path, text, tree):
            right = set()
            for node in ast.walk(tree):
                if isinstance(node, (ast.For, ast.comprehension)):
                    right.add(node.iter)
                if isinstance(node, ast.Call) and isinstance(node.func, ast.Name) and node.args and node.func.id in (
                        "list", "tuple", "dict", "sorted", "sum", "any", "all", "enumerate", "zip"):
                    right.add(node.args[0])
                if isinstance(node, ast.Assign) and isinstance(node.value, ast.Call) and getattr(
                        node.value.func, "id", "") == "range":
                    right.add(node.value)
            for node in ast.walk(tree):
                if isinstance(node, ast.Call):
                    name = getattr(node.func, "id", None) or getattr(node.func, "attr", None)
                    if name in ("range", "zip", "enumerate", "reversed", "items", "keys", "values"):
                        self.assertIn(node, right, ast.unparse(node))
                    if name == "set":
                        self.check_set(tree, node)

        self.each(check)

    def check_set(self, tree, node):
        """A set stands directly in sorted or len, without keywords."""
        outer = [call for call in ast.walk(tree) if isinstance(call, ast.Call) and node in call.args]
        self.assertTrue(outer and outer[0].func.id in ("sorted", "len") and not outer[0].keywords)

    def test_loops_do_not_change_what_they_iterate_over(self):
        def check(path, text, tree):
            for loop in ast.walk(tree):
                if isinstance(loop, ast.For):
                    names = {node.id for node in ast.walk(loop.iter) if isinstance(node, ast.Name)}
                    for node in [part for row in loop.body for part in ast.walk(row)]:
                        if isinstance(node, ast.Call) and isinstance(node.func, ast.Attribute) \
                                and node.func.attr in MODIFYING:
                            self.assertNotIn(getattr(node.func.value, "id", None), names)
                        if isinstance(node, ast.Subscript) and isinstance(node.ctx, (ast.Store, ast.Del)):
                            self.assertNotIn(getattr(node.value, "id", None), names)

        self.each(check)

    def test_errors_are_created_on_the_spot(self):
        def check(path, text, tree):
            for node in ast.walk(tree):
                if isinstance(node, ast.Raise):
                    self.assertIsInstance(node.exc, ast.Call)
                    self.assertIsInstance(node.exc.func, ast.Name)
                    self.assertRegex(node.exc.func.id, "^[A-Z]")

        self.each(check)

    def test_no_warnings(self):
        for path in files():
            with warnings.catch_warnings():
                warnings.simplefilter("error")
                compile(path.read_text(encoding="utf-8"), str(path), "exec")

    def test_functions_have_docstrings(self):
        def check(path, text, tree):
            self.assertIsNotNone(ast.get_docstring(tree))
            for node in tree.body:
                if isinstance(node, ast.FunctionDef) or isinstance(node, ast.ClassDef) and path.stem != "errors":
                    self.assertIsNotNone(ast.get_docstring(node), node.name)

        self.each(check)


if __name__ == "__main__":
    unittest.main()
