"""The rules of the language that can be seen in the text of the package, file by file."""

import ast
import builtins
import pathlib
import re
import unittest

PACKAGE = pathlib.Path(__file__).resolve().parent.parent / "listpost"
FILES = sorted(PACKAGE.glob("*.py"))

BARRED_WORDS = re.compile(
    r"\b(type|typing|typing_extensions|enum|Enum|IntEnum|StrEnum|Flag|IntFlag|Generic|Protocol|ABC|ABCMeta|namedtuple"
    r"|NamedTuple|TypedDict|TYPE_CHECKING|abstractmethod)\b|dataclass|overload|contextmanager")
BARRED_NAMES = set(
    "register mro elements open input version_info with_traceback add_note attrgetter breakpoint builtins compile"
    " copyright credits delattr dir eval exec exit gc getattr globals hasattr help id importlib license locals"
    " methodcaller os quit setattr type vars sys chr print".split())
BUILTINS = set(
    "len range enumerate zip min max sum abs sorted reversed int str bool bytes list tuple dict set isinstance ord"
    " repr any all divmod super ValueError".split())
METHODS = set(
    "append clear copy count endswith extend find get index insert isalnum isalpha isdigit islower isspace isupper"
    " items join keys ljust lower lstrip partition pop remove replace reverse rfind rjust rpartition rsplit rstrip"
    " setdefault split splitlines startswith strip update upper values zfill bit_length removeprefix".split())
SPECIAL_METHODS = {"__init__"}
NODES = (
    ast.Module, ast.Expr, ast.Constant, ast.ImportFrom, ast.alias, ast.FunctionDef, ast.arguments, ast.arg,
    ast.ClassDef, ast.Return, ast.Assign, ast.AugAssign, ast.If, ast.While, ast.For, ast.Break, ast.Continue, ast.Pass,
    ast.Raise, ast.Delete, ast.Try, ast.ExceptHandler, ast.Name, ast.Attribute, ast.Subscript, ast.Slice, ast.List,
    ast.Tuple, ast.Dict, ast.ListComp, ast.DictComp, ast.GeneratorExp, ast.comprehension, ast.BoolOp, ast.BinOp,
    ast.UnaryOp, ast.Compare, ast.Call, ast.IfExp, ast.JoinedStr, ast.FormattedValue, ast.Lambda, ast.Starred,
    ast.expr_context, ast.boolop, ast.operator, ast.unaryop, ast.cmpop, ast.keyword,
)


def bound_names(tree):
    """All names that a file gives to something."""
    for node in ast.walk(tree):
        if isinstance(node, (ast.FunctionDef, ast.ClassDef)):
            yield node.name
        elif isinstance(node, ast.arg):
            yield node.arg
        elif isinstance(node, ast.Name) and not isinstance(node.ctx, ast.Load):
            yield node.id
        elif isinstance(node, ast.alias):
            yield node.asname or node.name


class LanguageTest(unittest.TestCase):
    def setUp(self):
        self.texts = {path.stem: path.read_text("utf-8") for path in FILES}
        self.trees = {name: ast.parse(text) for name, text in self.texts.items()}

    def each(self, *kinds):
        for name, tree in self.trees.items():
            for node in ast.walk(tree):
                if isinstance(node, kinds):
                    with self.subTest(file=name, line=getattr(node, "lineno", 0)):
                        yield name, node

    def test_files(self):
        for path in PACKAGE.iterdir():
            if path.name != "__pycache__":
                self.assertRegex(path.name, r"\A([a-z][a-z0-9_]*|__init__)\.py\Z")
        self.assertIn("__init__", self.texts)

    def test_characters_and_sizes(self):
        for name, text in self.texts.items():
            with self.subTest(file=name):
                self.assertRegex(text, r"\A[\n -~]*\Z")
                self.assertLessEqual(len(text.splitlines()), 400)
                self.assertLessEqual(max(map(len, text.splitlines())), 120)
                self.assertIsNone(BARRED_WORDS.search(text))

    def test_functions_are_small(self):
        for name, node in self.each(ast.FunctionDef):
            self.assertLessEqual(node.end_lineno - node.lineno + 1, 40)
            self.assertEqual((node.decorator_list, node.args.posonlyargs), ([], []))

    def test_only_plain_parts_of_the_language(self):
        for name, node in self.each(ast.AST):
            self.assertIsInstance(node, NODES)

    def test_constants(self):
        for name, node in self.each(ast.Constant):
            self.assertIsInstance(node.value, (str, int, bytes, type(None)))
            self.assertNotIn("%", str(node.value))

    def test_no_division_and_is_only_with_none(self):
        for name, node in self.each(ast.BinOp):
            self.assertNotIsInstance(node.op, (ast.Div, ast.MatMult))
        for name, node in self.each(ast.Compare):
            if isinstance(node.ops[0], (ast.Is, ast.IsNot)):
                self.assertIn(getattr(node.comparators[0], "value", 0), (None, True, False))

    def test_imports(self):
        for name, node in self.each(ast.ImportFrom):
            self.assertEqual(node.level, 0)
            package, _, module = node.module.partition(".")
            self.assertEqual(package, "listpost")
            defined = {found for part in self.trees[module].body if not isinstance(part, ast.ImportFrom)
                       for found in self.top_names(part)}
            for alias in node.names:
                self.assertIn(alias.name, defined)

    def test_module_level(self):
        for name, tree in self.trees.items():
            with self.subTest(file=name):
                kinds = [type(node) for node in tree.body]
                self.assertIs(kinds[0], ast.Expr)
                self.assertNotIn(ast.Expr, kinds[1:])
                names = [found for node in tree.body for found in self.top_names(node)]
                self.assertEqual(len(names), len(set(names)))

    def top_names(self, node):
        if isinstance(node, (ast.FunctionDef, ast.ClassDef)):
            return [node.name]
        return list(bound_names(node))

    def test_names(self):
        for name, tree in self.trees.items():
            for found in bound_names(tree):
                with self.subTest(file=name, name=found):
                    self.assertTrue(re.fullmatch("[a-zA-Z][a-zA-Z0-9_]*", found) or found in SPECIAL_METHODS)
                    self.assertNotIn(found, BARRED_NAMES | set(dir(builtins)))

    def test_local_names_hide_no_class_or_import(self):
        for name, tree in self.trees.items():
            taken = {node.name for node in tree.body if isinstance(node, ast.ClassDef)}
            taken |= {alias.name for node in tree.body if isinstance(node, ast.ImportFrom) for alias in node.names}
            for node in ast.walk(tree):
                if isinstance(node, (ast.FunctionDef, ast.Lambda)):
                    inner = set().union(*[bound_names(part) for part in ast.iter_child_nodes(node)])
                    with self.subTest(file=name, line=node.lineno):
                        self.assertEqual(inner & taken, set())

    def test_names_read_are_known(self):
        for name, node in self.each(ast.Name):
            if isinstance(node.ctx, ast.Load):
                self.assertIn(node.id, set(bound_names(self.trees[name])) | BUILTINS)

    def test_attributes(self):
        classes = [node for name, node in self.each(ast.ClassDef)]
        methods = {part.name for node in classes for part in node.body if isinstance(part, ast.FunctionDef)}
        stored = {node.attr for name, node in self.each(ast.Attribute) if isinstance(node.ctx, ast.Store)}
        self.assertEqual(methods & stored, set())
        for name, node in self.each(ast.Attribute):
            self.assertIn(node.attr, METHODS | methods | stored)

    def test_sets_are_only_counted(self):
        for name, tree in self.trees.items():
            parents = {child: node for node in ast.walk(tree) for child in ast.iter_child_nodes(node)}
            for node in ast.walk(tree):
                if isinstance(node, ast.Call) and isinstance(node.func, ast.Name) and node.func.id == "set":
                    with self.subTest(file=name, line=node.lineno):
                        self.assertIn(parents[node].func.id, ("len", "sorted"))

    def test_no_state_at_module_level(self):
        for name, tree in self.trees.items():
            for node in tree.body:
                if isinstance(node, ast.Assign):
                    with self.subTest(file=name, line=node.lineno):
                        self.assertIsInstance(ast.literal_eval(node.value), (int, str, bytes, tuple))

    def test_no_file_imports_itself_through_others(self):
        needs = {name: {node.module.partition(".")[2] for node in tree.body if isinstance(node, ast.ImportFrom)}
                 for name, tree in self.trees.items()}
        for name in needs:
            come, waiting = set(), set(needs[name])
            while waiting:
                come |= waiting
                waiting = set().union(*[needs[other] for other in waiting]) - come
            self.assertNotIn(name, come)

    def test_imports_are_used(self):
        for name, node in self.each(ast.ImportFrom):
            read = {found.id for found in ast.walk(self.trees[name]) if isinstance(found, ast.Name)}
            self.assertEqual({alias.name for alias in node.names} - read, set())

    def test_classes_and_their_bases(self):
        own = {node.name for name, node in self.each(ast.ClassDef)}
        for name, node in self.each(ast.ClassDef):
            self.assertEqual((node.decorator_list, node.keywords), ([], []))
            self.assertTrue({base.id for base in node.bases} <= own | {"ValueError"})
            parts = [part.name for part in node.body if isinstance(part, ast.FunctionDef)]
            self.assertEqual(len(parts), len(set(parts)))
            for part in node.body:
                self.assertIsInstance(part, (ast.FunctionDef, ast.Expr))

    def parents(self, name):
        return {child: node for node in ast.walk(self.trees[name]) for child in ast.iter_child_nodes(node)}

    def test_classes_are_only_called_or_bases(self):
        own = {node.name for name, node in self.each(ast.ClassDef)}
        for name in self.trees:
            parents = self.parents(name)
            for node, parent in parents.items():
                if isinstance(node, ast.Name) and node.id in own:
                    with self.subTest(file=name, line=node.lineno):
                        called = isinstance(parent, ast.Call) and parent.func is node
                        self.assertTrue(called or isinstance(parent, ast.ClassDef))

    def test_builtins_are_called_where_they_stand(self):
        for name in self.trees:
            for node, parent in self.parents(name).items():
                if isinstance(node, ast.Name) and node.id in BUILTINS - {"ValueError"}:
                    with self.subTest(file=name, line=node.lineno):
                        self.assertIsInstance(parent, ast.Call)
                        self.assertTrue(parent.func is node or parent.func.id == "isinstance")

    def test_what_is_iterated_at_once(self):
        takers = ("list", "tuple", "dict", "sorted", "sum", "any", "all", "enumerate", "zip", "min", "max")
        for name in self.trees:
            for node, parent in self.parents(name).items():
                if isinstance(node, ast.Call):
                    word = getattr(node.func, "id", getattr(node.func, "attr", ""))
                    if word in ("zip", "enumerate", "reversed", "range", "items", "keys", "values"):
                        with self.subTest(file=name, line=node.lineno):
                            looped = isinstance(parent, (ast.For, ast.comprehension)) and parent.iter is node
                            taken = isinstance(parent, ast.Call) and getattr(parent.func, "id", "") in takers
                            self.assertTrue(looped or taken)

    def test_generators_stand_only_where_they_are_used_up(self):
        for name in self.trees:
            for node, parent in self.parents(name).items():
                if isinstance(node, ast.GeneratorExp):
                    with self.subTest(file=name, line=node.lineno):
                        self.assertIsInstance(parent, ast.Call)
                        self.assertIn(parent.func.id, ("any", "all"))

    def test_loops_do_not_change_what_they_go_through(self):
        changing = {"append", "clear", "extend", "insert", "pop", "remove", "reverse", "setdefault", "update"}
        for name, loop in self.each(ast.For):
            through = {ast.dump(node) for node in ast.walk(loop.iter) if isinstance(node, (ast.Name, ast.Attribute))}
            for node in [found for part in loop.body for found in ast.walk(part)]:
                if isinstance(node, ast.Call) and isinstance(node.func, ast.Attribute) and node.func.attr in changing:
                    self.assertNotIn(ast.dump(node.func.value), through)
                if isinstance(node, ast.Subscript) and not isinstance(node.ctx, ast.Load):
                    self.assertNotIn(ast.dump(node.value).replace("Store", "Load").replace("Del", "Load"), through)

    def test_errors_are_made_on_the_spot(self):
        own = {node.name for node in self.trees["errors"].body if isinstance(node, ast.ClassDef)}
        for name, node in self.each(ast.Raise):
            self.assertIsInstance(node.exc, ast.Call)
            self.assertIn(node.exc.func.id, own)
            self.assertEqual(node.exc.keywords, [])

    def test_defaults_and_keywords(self):
        for name, node in self.each(ast.arguments):
            self.assertTrue(all(isinstance(default, ast.Constant) for default in node.defaults))
            self.assertEqual((node.kwonlyargs, node.vararg, node.kwarg), ([], None, None))
        for name, node in self.each(ast.Call):
            words = {word.arg for word in node.keywords}
            if words:
                self.assertIn(node.func.id, ("sorted", "min", "max"))
                self.assertTrue(words <= {"key", "default"})

    def test_calls_pass_what_functions_take(self):
        takes = {}
        for name, node in self.each(ast.FunctionDef):
            takes.setdefault(node.name, set()).add((len(node.args.args) - len(node.args.defaults), len(node.args.args)))
        for name, tree in self.trees.items():
            top = {part.name for part in tree.body if isinstance(part, ast.FunctionDef)}
            top |= {alias.name for part in tree.body if isinstance(part, ast.ImportFrom) for alias in part.names}
            for node in ast.walk(tree):
                if isinstance(node, ast.Call) and isinstance(node.func, ast.Name) and node.func.id in takes:
                    if node.func.id in top and len(takes[node.func.id]) == 1:
                        with self.subTest(file=name, line=node.lineno):
                            (least, most), = takes[node.func.id]
                            self.assertTrue(least <= len(node.args) <= most)

    def test_escapes(self):
        for name, text in self.texts.items():
            with self.subTest(file=name):
                self.assertIsNone(re.search(r"\\[^nt\\'\"]", text))
                self.assertNotIn("\t", text)

    def test_methods_of_the_interface_stand_in_their_classes(self):
        told = {"Post": "book people found enter strike leave come_back bar send held let drop got letter twin".split()}
        told.update({kind: ["shows"] for kind in ("Way", "Shut", "Cut", "Named")})
        for name, node in self.each(ast.ClassDef):
            methods = {part.name for part in node.body if isinstance(part, ast.FunctionDef)}
            self.assertTrue(set(told.get(node.name, ())) <= methods)


if __name__ == "__main__":
    unittest.main()
