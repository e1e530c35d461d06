"""The rules of LANGUAGE.md that a look at the code can judge, for all files of the package."""
import ast
import builtins
import re
import unittest
from pathlib import Path

PACKAGE = Path(__file__).resolve().parent.parent / "signcleave"
LIBRARY = {
    "heapq": {"heappush", "heappop", "heapify", "heapreplace", "heappushpop"},
    "math": {"gcd", "lcm", "isqrt", "comb", "perm", "factorial"},
    "itertools": {"product", "combinations", "permutations"},
}
BUILTINS = set(
    "len range enumerate zip min max sum abs sorted reversed int str bool list tuple dict set frozenset isinstance ord "
    "repr any all divmod map iter next super property staticmethod classmethod Exception ValueError TypeError KeyError "
    "IndexError LookupError ZeroDivisionError ArithmeticError OverflowError RuntimeError NotImplementedError "
    "AttributeError StopIteration NotImplemented".split()
)
METHODS = set(
    "append clear copy count endswith extend find get index insert isalnum isalpha isdigit islower isspace isupper "
    "items join keys ljust lower lstrip partition pop remove replace reverse rfind rjust rpartition rsplit rstrip "
    "setdefault split splitlines startswith strip update upper values zfill bit_length title capitalize swapcase "
    "casefold center expandtabs removeprefix removesuffix rindex isascii isdecimal isnumeric istitle isidentifier "
    "isprintable translate add discard sort encode __init__".split()
)
BARRED = set(
    "register mro elements open input law version_info with_traceback add_note attrgetter breakpoint builtins compile "
    "copyright credits delattr dir eval exec exit gc getattr globals hasattr help id importlib license locals "
    "methodcaller os quit setattr type vars sys typing enum Enum IntEnum StrEnum Flag Generic Protocol ABC ABCMeta "
    "namedtuple NamedTuple TypedDict TYPE_CHECKING abstractmethod chr bytes bytearray memoryview".split()
)
BARRED_NODES = (
    ast.Import, ast.Global, ast.AsyncFunctionDef, ast.AsyncFor, ast.AsyncWith, ast.Await, ast.TryStar, ast.Div,
    ast.MatMult, ast.MatchClass, ast.MatchMapping,
)
PLAIN_DEFAULTS = (ast.Constant, ast.Tuple, ast.UnaryOp, ast.BinOp, ast.Name)


def sources():
    return {path.relative_to(PACKAGE).as_posix(): path.read_text("ascii") for path in sorted(PACKAGE.rglob("*.py"))}


def trees():
    return {name: ast.parse(text) for name, text in sources().items()}


def nodes(kind):
    for name, tree in trees().items():
        for node in ast.walk(tree):
            if isinstance(node, kind):
                yield name, node


def is_docstring(node):
    return isinstance(node, ast.Expr) and isinstance(node.value, ast.Constant) and isinstance(node.value.value, str)


def imports():
    """(file, module, names) of each import of the package."""
    for name, node in nodes(ast.ImportFrom):
        yield name, node.module, [alias.name for alias in node.names]


def defined(tree):
    names = {node.name for node in tree.body if isinstance(node, (ast.FunctionDef, ast.ClassDef))}
    return names | {node.targets[0].id for node in tree.body if isinstance(node, ast.Assign)}


class Files(unittest.TestCase):

    def test_only_python_files_with_plain_names(self):
        for path in PACKAGE.rglob("*"):
            if "__pycache__" in path.parts or path.is_dir():
                continue
            self.assertRegex(path.name, r"^[a-z0-9_]+\.py$")
        self.assertIn("__init__.py", sources())
        self.assertLessEqual(len(sources()), 100)

    def test_characters_and_sizes(self):
        for name, text in sources().items():
            self.assertIsNone(re.search(r"[^ -~\n]", text), name)
            self.assertLessEqual(len(text.splitlines()), 399, name)
            for at, line in enumerate(text.splitlines(), start=1):
                self.assertLessEqual(len(line), 120, (name, at))

    def test_functions_are_short(self):
        for name, node in nodes(ast.FunctionDef):
            self.assertLessEqual(node.end_lineno - node.lineno + 1, 40, (name, node.name))

    def test_module_level_is_plain(self):
        for name, tree in trees().items():
            for at, node in enumerate(tree.body):
                if at == 0 and is_docstring(node):
                    continue
                allowed = (ast.ImportFrom, ast.FunctionDef, ast.ClassDef, ast.Assign)
                self.assertIsInstance(node, allowed, (name, node.lineno))
                if isinstance(node, ast.Assign):
                    self.assertEqual([type(target) for target in node.targets], [ast.Name], (name, node.lineno))

    def test_names_are_bound_once(self):
        for name, tree in trees().items():
            bound = [alias.name for node in tree.body if isinstance(node, ast.ImportFrom) for alias in node.names]
            for node in tree.body:
                if isinstance(node, (ast.FunctionDef, ast.ClassDef)):
                    bound.append(node.name)
                elif isinstance(node, ast.Assign):
                    bound.append(node.targets[0].id)
            self.assertEqual(sorted(bound), sorted(set(bound)), name)


class Imports(unittest.TestCase):

    def test_imports_stand_at_the_top_in_the_one_form(self):
        for name, tree in trees().items():
            body = tree.body[1:] if tree.body and is_docstring(tree.body[0]) else tree.body
            ahead = [isinstance(node, ast.ImportFrom) for node in body]
            self.assertEqual(ahead, sorted(ahead, reverse=True), name)
            inner = [node for node in ast.walk(tree) if isinstance(node, ast.ImportFrom)]
            self.assertEqual(len(inner), sum(ahead), name)
            for node in inner:
                self.assertEqual(node.level, 0, name)
                self.assertTrue(all(alias.asname is None and alias.name != "*" for alias in node.names), name)

    def test_imports_name_what_the_file_defines(self):
        for name, module, names in imports():
            if module in LIBRARY:
                self.assertLessEqual(set(names), LIBRARY[module], name)
                continue
            self.assertTrue(module.startswith("signcleave."), (name, module))
            told = module.removeprefix("signcleave.").replace(".", "/") + ".py"
            self.assertLessEqual(set(names), defined(trees()[told]), name)

    def test_no_files_import_from_each_other(self):
        needs = {name: set() for name in trees()}
        for name, module, _ in imports():
            if module not in LIBRARY:
                needs[name].add(module.removeprefix("signcleave.").replace(".", "/") + ".py")
        while needs:
            free = [name for name in needs if not needs[name] & set(needs)]
            self.assertTrue(free, needs)
            for name in free:
                del needs[name]


class Words(unittest.TestCase):

    def test_nothing_barred_stands_in_the_code(self):
        for name, node in nodes(BARRED_NODES):
            self.fail((name, node))

    def test_names(self):
        for name, node in nodes(ast.Name):
            self.assertNotIn(node.id, BARRED, (name, node.lineno))
            if node.id in vars(builtins):
                self.assertIn(node.id, BUILTINS, (name, node.lineno))
                self.assertIsInstance(node.ctx, ast.Load, (name, node.lineno))

    def test_names_of_functions_classes_and_arguments(self):
        for name, node in nodes((ast.FunctionDef, ast.ClassDef, ast.arg)):
            told = node.arg if isinstance(node, ast.arg) else node.name
            self.assertRegex(told, r"^(_?[A-Za-z][A-Za-z0-9_]*|_|__[a-z]+__)$", (name, node.lineno))
            if not told.startswith("__"):
                self.assertNotIn(told, vars(builtins), (name, node.lineno))
            self.assertNotIn(told, BARRED, (name, node.lineno))

    def test_no_local_name_hides_an_import_or_a_class(self):
        for name, tree in trees().items():
            kept = {alias.name for node in tree.body if isinstance(node, ast.ImportFrom) for alias in node.names}
            kept |= {node.name for node in tree.body if isinstance(node, ast.ClassDef)}
            for node in ast.walk(tree):
                if isinstance(node, ast.arg):
                    self.assertNotIn(node.arg, kept, (name, node.lineno))
                if isinstance(node, ast.Name) and isinstance(node.ctx, ast.Store):
                    self.assertNotIn(node.id, kept, (name, node.lineno))

    def test_methods_that_are_called(self):
        own = {node.name for _, node in nodes(ast.FunctionDef)}
        for name, node in nodes(ast.Call):
            if isinstance(node.func, ast.Attribute):
                self.assertIn(node.func.attr, METHODS | own, (name, node.lineno))

    def test_decorators_and_defaults(self):
        for name, node in nodes(ast.FunctionDef):
            for decorator in node.decorator_list:
                self.assertIn(ast.unparse(decorator).split(".")[-1], ("property", "setter", "staticmethod", "classmethod"))
            for default in [*node.args.defaults, *[one for one in node.args.kw_defaults if one is not None]]:
                self.assertIsInstance(default, PLAIN_DEFAULTS, (name, node.name))
        for name, node in nodes(ast.ClassDef):
            self.assertEqual(node.decorator_list, [], (name, node.name))

    def test_double_underscore_methods(self):
        for name, node in nodes(ast.FunctionDef):
            if not node.name.startswith("__"):
                continue
            self.assertIn(node.name, ("__init__", "__eq__", "__repr__", "__str__", "__len__"), (name, node.lineno))
            told = [inner for inner in ast.walk(node) if isinstance(inner, ast.Return)]
            if node.name == "__init__":
                self.assertEqual(told, [], (name, node.lineno))
            elif node.name != "__eq__":
                self.assertIs(node.body[-1], told[-1], (name, node.lineno))
            if node.name == "__len__":
                for inner in told:
                    self.assertRegex(ast.unparse(inner.value), r"^(len\(.*\)|\d+)$", (name, node.lineno))

    def test_what_is_kept_at_module_level_is_plain(self):
        for name, tree in trees().items():
            for node in tree.body:
                if isinstance(node, ast.Assign):
                    told = ast.literal_eval(node.value)
                    inner = told.values() if isinstance(told, dict) else told if isinstance(told, (list, tuple)) else []
                    self.assertFalse([one for one in inner if isinstance(one, (list, dict))], (name, node.lineno))

    def test_strings_and_numbers(self):
        for name, node in nodes(ast.Constant):
            self.assertNotIsInstance(node.value, (float, complex), (name, node.lineno))
            if isinstance(node.value, str):
                self.assertNotIn("%", node.value, (name, node.lineno))
        for name, node in nodes(ast.BinOp):
            if isinstance(node.op, ast.Pow):
                self.assertIsInstance(node.right, ast.Constant, (name, node.lineno))

    def test_is_stands_with_none_true_or_false(self):
        for name, node in nodes(ast.Compare):
            for op, right in zip(node.ops, node.comparators):
                if isinstance(op, (ast.Is, ast.IsNot)):
                    self.assertIsInstance(right, ast.Constant, (name, node.lineno))

    def test_errors_are_raised_by_a_class_on_the_spot(self):
        for name, node in nodes(ast.Raise):
            if node.exc is not None:
                self.assertIsInstance(node.exc, ast.Call, (name, node.lineno))
                self.assertIsInstance(node.exc.func, ast.Name, (name, node.lineno))
                self.assertTrue(node.exc.func.id[0].isupper(), (name, node.lineno))

    def test_any_and_all_take_lists(self):
        # L7 asks this of packages in which a class has __eq__, as House and Book will.
        for name, node in nodes(ast.Call):
            if isinstance(node.func, ast.Name) and node.func.id in ("any", "all", "min", "max", "sum", "sorted"):
                for handed in node.args:
                    self.assertNotIsInstance(handed, ast.GeneratorExp, (name, node.lineno))


if __name__ == "__main__":
    unittest.main()
