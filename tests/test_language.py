"""The rules of the language that can be seen in the text of the package, file by file."""

import ast
import builtins
import pathlib
import re
import unittest

PACKAGE = pathlib.Path(__file__).resolve().parent.parent / "listpost"
FILES = sorted(PACKAGE.glob("*.py"))

BARRED_WORDS = re.compile(
    r"\b(type|typing|typing_extensions|enum|Enum|IntEnum|StrEnum|Flag|IntFlag|Generic|Protocol|ABC|ABCMeta|namedtuple"
    r"|NamedTuple|TypedDict|TYPE_CHECKING|abstractmethod)\b|dataclass|overload|contextmanager")
BARRED_NAMES = set(
    "register mro elements open input version_info with_traceback add_note attrgetter breakpoint builtins compile"
    " copyright credits delattr dir eval exec exit gc getattr globals hasattr help id importlib license locals"
    " methodcaller os quit setattr type vars sys chr print".split())
BUILTINS = set(
    "len range enumerate zip min max sum abs sorted reversed int str bool bytes list tuple dict set isinstance ord"
    " repr any all divmod super ValueError".split())
METHODS = set(
    "append clear copy count endswith extend find get index insert isalnum isalpha isdigit islower isspace isupper"
    " items join keys ljust lower lstrip partition pop remove replace reverse rfind rjust rpartition rsplit rstrip"
    " setdefault split splitlines startswith strip update upper values zfill bit_length".split())
SPECIAL_METHODS = {"__init__"}
NODES = (
    ast.Module, ast.Expr, ast.Constant, ast.ImportFrom, ast.alias, ast.FunctionDef, ast.arguments, ast.arg,
    ast.ClassDef, ast.Return, ast.Assign, ast.AugAssign, ast.If, ast.While, ast.For, ast.Break, ast.Continue, ast.Pass,
    ast.Raise, ast.Delete, ast.Try, ast.ExceptHandler, ast.Name, ast.Attribute, ast.Subscript, ast.Slice, ast.List,
    ast.Tuple, ast.Dict, ast.ListComp, ast.DictComp, ast.GeneratorExp, ast.comprehension, ast.BoolOp, ast.BinOp,
    ast.UnaryOp, ast.Compare, ast.Call, ast.IfExp, ast.JoinedStr, ast.FormattedValue, ast.Lambda, ast.Starred,
    ast.expr_context, ast.boolop, ast.operator, ast.unaryop, ast.cmpop, ast.keyword,
)


def bound_names(tree):
    """All names that a file gives to something."""
    for node in ast.walk(tree):
        if isinstance(node, (ast.FunctionDef, ast.ClassDef)):
            yield node.name
        elif isinstance(node, ast.arg):
            yield node.arg
        elif isinstance(node, ast.Name) and not isinstance(node.ctx, ast.Load):
            yield node.id
        elif isinstance(node, ast.alias):
            yield node.asname or node.name


class LanguageTest(unittest.TestCase):
    def setUp(self):
        self.texts = {path.stem: path.read_text("utf-8") for path in FILES}
        self.trees = {name: ast.parse(text) for name, text in self.texts.items()}

    def each(self, *kinds):
        for name, tree in self.trees.items():
            for node in ast.walk(tree):
                if isinstance(node, kinds):
                    with self.subTest(file=name, line=getattr(node, "lineno", 0)):
                        yield name, node

    def test_files(self):
        for path in PACKAGE.iterdir():
            if path.name != "__pycache__":
                self.assertRegex(path.name, r"\A([a-z][a-z0-9_]*|__init__)\.py\Z")
        self.assertIn("__init__", self.texts)

    def test_characters_and_sizes(self):
        for name, text in self.texts.items():
            with self.subTest(file=name):
                self.assertRegex(text, r"\A[\n -~]*\Z")
                self.assertLessEqual(len(text.splitlines()), 400)
                self.assertLessEqual(max(map(len, text.splitlines())), 120)
                self.assertIsNone(BARRED_WORDS.search(text))

    def test_functions_are_small(self):
        for name, node in self.each(ast.FunctionDef):
            self.assertLessEqual(node.end_lineno - node.lineno + 1, 40)
            self.assertEqual((node.decorator_list, node.args.posonlyargs), ([], []))

    def test_only_plain_parts_of_the_language(self):
        for name, node in self.each(ast.AST):
            self.assertIsInstance(node, NODES)

    def test_constants(self):
        for name, node in self.each(ast.Constant):
            self.assertIsInstance(node.value, (str, int, bytes, type(None)))
            self.assertNotIn("%", str(node.value))

    def test_no_division_and_is_only_with_none(self):
        for name, node in self.each(ast.BinOp):
            self.assertNotIsInstance(node.op, (ast.Div, ast.MatMult))
        for name, node in self.each(ast.Compare):
            if isinstance(node.ops[0], (ast.Is, ast.IsNot)):
                self.assertIn(getattr(node.comparators[0], "value", 0), (None, True, False))

    def test_imports(self):
        for name, node in self.each(ast.ImportFrom):
            self.assertEqual(node.level, 0)
            package, _, module = node.module.partition(".")
            self.assertEqual(package, "listpost")
            defined = {part.name for part in self.trees[module].body if hasattr(part, "name")}
            for alias in node.names:
                self.assertIn(alias.name, defined)

    def test_module_level(self):
        for name, tree in self.trees.items():
            with self.subTest(file=name):
                kinds = [type(node) for node in tree.body]
                self.assertIs(kinds[0], ast.Expr)
                self.assertNotIn(ast.Expr, kinds[1:])
                names = [found for node in tree.body for found in self.top_names(node)]
                self.assertEqual(len(names), len(set(names)))

    def top_names(self, node):
        if isinstance(node, (ast.FunctionDef, ast.ClassDef)):
            return [node.name]
        return list(bound_names(node))

    def test_names(self):
        for name, tree in self.trees.items():
            for found in bound_names(tree):
                with self.subTest(file=name, name=found):
                    self.assertTrue(re.fullmatch("[a-zA-Z][a-zA-Z0-9_]*", found) or found in SPECIAL_METHODS)
                    self.assertNotIn(found, BARRED_NAMES | set(dir(builtins)))

    def test_local_names_hide_no_class_or_import(self):
        for name, tree in self.trees.items():
            taken = {node.name for node in tree.body if isinstance(node, ast.ClassDef)}
            taken |= {alias.name for node in tree.body if isinstance(node, ast.ImportFrom) for alias in node.names}
            for node in ast.walk(tree):
                if isinstance(node, (ast.FunctionDef, ast.Lambda)):
                    inner = set().union(*[bound_names(part) for part in ast.iter_child_nodes(node)])
                    with self.subTest(file=name, line=node.lineno):
                        self.assertEqual(inner & taken, set())

    def test_names_read_are_known(self):
        for name, node in self.each(ast.Name):
            if isinstance(node.ctx, ast.Load):
                self.assertIn(node.id, set(bound_names(self.trees[name])) | BUILTINS)

    def test_attributes(self):
        classes = [node for name, node in self.each(ast.ClassDef)]
        methods = {part.name for node in classes for part in node.body if isinstance(part, ast.FunctionDef)}
        stored = {node.attr for name, node in self.each(ast.Attribute) if isinstance(node.ctx, ast.Store)}
        self.assertEqual(methods & stored, set())
        for name, node in self.each(ast.Attribute):
            self.assertIn(node.attr, METHODS | methods | stored)

    def test_sets_are_only_counted(self):
        for name, tree in self.trees.items():
            parents = {child: node for node in ast.walk(tree) for child in ast.iter_child_nodes(node)}
            for node in ast.walk(tree):
                if isinstance(node, ast.Call) and isinstance(node.func, ast.Name) and node.func.id == "set":
                    with self.subTest(file=name, line=node.lineno):
                        self.assertIn(parents[node].func.id, ("len", "sorted"))

    def test_no_state_at_module_level(self):
        for name, tree in self.trees.items():
            for node in tree.body:
                if isinstance(node, ast.Assign):
                    with self.subTest(file=name, line=node.lineno):
                        self.assertIsInstance(ast.literal_eval(node.value), (int, str, bytes, tuple))


if __name__ == "__main__":
    unittest.main()
