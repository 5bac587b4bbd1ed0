"""The form of the code: those rules of ../shared/LANGUAGE.md that can be read off the files."""

import ast
import re
import unittest
from pathlib import Path

FOLDER = Path(__file__).resolve().parent.parent / "mirrorsums"
FILES = sorted(FOLDER.glob("*.py"))

STATEMENTS = (
    ast.Assign, ast.AugAssign, ast.If, ast.While, ast.For, ast.Return, ast.Break, ast.Continue, ast.Pass, ast.Raise,
    ast.Assert, ast.Delete, ast.Try, ast.Expr, ast.FunctionDef, ast.ClassDef, ast.ImportFrom,
)
BARRED_NODES = (
    ast.GeneratorExp, ast.NamedExpr, ast.Div, ast.MatMult, ast.Global, ast.Nonlocal, ast.With, ast.Yield, ast.YieldFrom,
    ast.Await, ast.Lambda, ast.AsyncFunctionDef,
)
BUILTINS = (
    "len range enumerate zip min max sum abs sorted reversed int str bool bytes list tuple dict set isinstance ord repr "
    "any all divmod ValueError KeyError IndexError LookupError ZeroDivisionError"
).split()
METHODS = (
    "append clear copy count endswith extend find get index insert isalnum isalpha isdigit islower isspace isupper items "
    "join keys ljust lower lstrip partition pop remove replace reverse rfind rjust rpartition rsplit rstrip setdefault "
    "split splitlines startswith strip update upper values zfill bit_length"
).split()
BARRED_WORDS = (
    "type typing typing_extensions enum Enum IntEnum StrEnum Flag IntFlag Generic Protocol ABC ABCMeta namedtuple "
    "NamedTuple TypedDict TYPE_CHECKING abstractmethod"
).split()
BARRED_NAMES = (
    "register mro elements open input version_info with_traceback add_note attrgetter breakpoint builtins compile "
    "copyright credits delattr dir eval exec exit gc getattr globals hasattr help id importlib license locals "
    "methodcaller os quit setattr super vars sys hash next map round filter iter object print chr float frozenset"
).split()


def tree_of(file):
    return ast.parse(file.read_text(encoding="utf-8"))


def bound_names(tree):
    """All names that a file gives a meaning."""
    for node in ast.walk(tree):
        if isinstance(node, (ast.FunctionDef, ast.ClassDef)):
            yield node.name
        elif isinstance(node, ast.arg):
            yield node.arg
        elif isinstance(node, ast.Name) and isinstance(node.ctx, ast.Store):
            yield node.id
        elif isinstance(node, ast.alias):
            yield node.asname or node.name
        elif isinstance(node, ast.Attribute) and isinstance(node.ctx, ast.Store):
            yield node.attr


def top_names(tree):
    """All names that a file gives a meaning at module level, each as often as it does."""
    for node in tree.body:
        if isinstance(node, (ast.FunctionDef, ast.ClassDef)):
            yield node.name
        elif isinstance(node, ast.Assign):
            yield from [target.id for target in node.targets]
        elif isinstance(node, ast.ImportFrom):
            yield from [alias.asname or alias.name for alias in node.names]


class Form(unittest.TestCase):

    def test_the_folder_holds_plain_files_alone(self):
        # The folder of compiled files is left by running and is not part of the project.
        found = sorted(item.name for item in FOLDER.iterdir() if item.name != "__pycache__")
        self.assertEqual([file.name for file in FILES], found)
        self.assertIn("__init__.py", found)
        for name in found:
            self.assertRegex(name, r"\A[a-z_]+\.py\Z")

    def test_sizes_and_signs(self):
        for file in FILES:
            with self.subTest(file=file.name):
                tree = tree_of(file)
                text = file.read_text(encoding="utf-8")
                self.assertRegex(text, r"\A[\n -~]*\Z")
                self.assertLessEqual(len(text.splitlines()), 400)
                self.assertLessEqual(max(len(line) for line in text.splitlines()), 120)
                for node in ast.walk(tree):
                    if isinstance(node, ast.FunctionDef):
                        self.assertLessEqual(node.end_lineno - node.lineno + 1, 40, node.name)

    def test_imports_are_of_the_package_alone(self):
        for file in FILES:
            with self.subTest(file=file.name):
                tree = tree_of(file)
                behind = [node for node in tree.body if not isinstance(node, ast.ImportFrom)]
                ends = [node.lineno for node in behind[1:]]
                for node in ast.walk(tree):
                    self.assertNotIsInstance(node, ast.Import)
                    if isinstance(node, ast.ImportFrom):
                        self.assertRegex(node.module, r"\Amirrorsums\.[a-z]+\Z")
                        self.assertEqual(0, node.level)
                        self.assertTrue(all(node.lineno < line for line in ends))
                        home = tree_of(FOLDER / (node.module.split(".")[1] + ".py"))
                        made = [item for item in home.body if not isinstance(item, ast.ImportFrom)]
                        for alias in node.names:
                            self.assertIn(alias.name, list(top_names(ast.Module(made, []))))

    def test_no_two_files_import_from_each_other(self):
        needs = {
            file.stem: {node.module.split(".")[1] for node in ast.walk(tree_of(file)) if isinstance(node, ast.ImportFrom)}
            for file in FILES
        }
        while needs:
            free = [name for name, others in needs.items() if not others]
            self.assertNotEqual([], free, needs)
            needs = {name: others - set(free) for name, others in needs.items() if name not in free}

    def test_statements_and_expressions(self):
        for file in FILES:
            with self.subTest(file=file.name):
                tree = tree_of(file)
                for node in ast.walk(tree):
                    if isinstance(node, ast.stmt):
                        self.assertIsInstance(node, STATEMENTS, ast.dump(node)[:80])
                    self.assertNotIsInstance(node, BARRED_NODES)
                    if isinstance(node, (ast.For, ast.While)):
                        self.assertEqual([], node.orelse)
                    if isinstance(node, (ast.FunctionDef, ast.ClassDef)):
                        self.assertEqual([], node.decorator_list)
                    if isinstance(node, ast.FunctionDef):
                        self.assertIsNone(node.args.vararg or node.args.kwarg)
                        self.assertEqual([], node.args.posonlyargs)
                    if isinstance(node, ast.Constant):
                        self.assertNotIsInstance(node.value, (float, complex))
                        self.assertFalse(isinstance(node.value, str) and "%" in node.value)
                    if isinstance(node, ast.BinOp) and isinstance(node.op, ast.Pow):
                        self.assertIsInstance(node.right, ast.Constant)
                        self.assertLessEqual(node.right.value, 64)
                    if isinstance(node, ast.Compare):
                        for op, right in zip(node.ops, node.comparators):
                            if isinstance(op, (ast.Is, ast.IsNot)):
                                self.assertIsInstance(right, ast.Constant)

    def test_module_level(self):
        for file in FILES:
            with self.subTest(file=file.name):
                tree = tree_of(file)
                self.assertIsNotNone(ast.get_docstring(tree))
                for node in tree.body[1:]:
                    self.assertIsInstance(node, (ast.ImportFrom, ast.FunctionDef, ast.ClassDef, ast.Assign))
                    if isinstance(node, ast.Assign):
                        self.assertEqual([], [item for item in ast.walk(node) if isinstance(item, (ast.Call, ast.ListComp))])
                names = list(top_names(tree))
                self.assertEqual(len(names), len(set(names)))

    def test_names(self):
        for file in FILES:
            with self.subTest(file=file.name):
                tree = tree_of(file)
                for name in bound_names(tree):
                    self.assertNotIn(name, BARRED_NAMES + BUILTINS)
                    if name != "__init__":
                        self.assertRegex(name, r"\A[A-Za-z][A-Za-z0-9_]*\Z")
                words = re.findall(r"\w+", file.read_text(encoding="utf-8"))
                self.assertEqual(set(), set(words) & set(BARRED_WORDS))

    def test_no_name_within_hides_a_class_or_an_import(self):
        for file in FILES:
            with self.subTest(file=file.name):
                tree = tree_of(file)
                held = [node.name for node in tree.body if isinstance(node, ast.ClassDef)]
                held += [alias.name for node in tree.body if isinstance(node, ast.ImportFrom) for alias in node.names]
                for node in ast.walk(tree):
                    if isinstance(node, ast.FunctionDef):
                        inner = set(bound_names(node)) - {node.name}
                        self.assertEqual(set(), inner & set(held), node.name)

    def test_calls(self):
        own = {name for file in FILES for name in top_names(tree_of(file))}
        for file in FILES:
            with self.subTest(file=file.name):
                tree = tree_of(file)
                inner = set(bound_names(tree))
                for node in ast.walk(tree):
                    if isinstance(node, ast.Call):
                        if isinstance(node.func, ast.Name):
                            self.assertIn(node.func.id, set(BUILTINS) | own | inner)
                        else:
                            self.assertIsInstance(node.func, ast.Attribute)
                            self.assertIn(node.func.attr, METHODS)
                        self.assertFalse([item for item in node.args if isinstance(item, ast.Starred)])

    def test_errors_are_raised_on_the_spot(self):
        refusals = {node.name for node in tree_of(FOLDER / "errors.py").body if isinstance(node, ast.ClassDef)}
        for file in FILES:
            with self.subTest(file=file.name):
                tree = tree_of(file)
                for node in ast.walk(tree):
                    if isinstance(node, ast.Raise):
                        self.assertIsInstance(node.exc, ast.Call)
                        self.assertIn(node.exc.func.id, refusals)


if __name__ == "__main__":
    unittest.main()
