"""The package's own files keep to the small part of Python that is asked for, as far as a walk through them can see."""

import ast
import builtins
import pathlib
import re
import unittest

PACKAGE = pathlib.Path(__file__).resolve().parent.parent / "hookmill"

NODES = set("""
Module Import ImportFrom alias FunctionDef ClassDef arguments arg Return Assign AugAssign For While If Break Continue
Pass Raise Try ExceptHandler Expr Call Attribute Name Load Store Constant Subscript Slice List Tuple Dict Set ListComp
comprehension Lambda IfExp BoolOp And Or UnaryOp Not USub UAdd Invert BinOp Add Sub Mult FloorDiv Mod Pow BitAnd BitOr
BitXor LShift RShift Compare Eq NotEq Lt LtE Gt GtE Is IsNot In NotIn JoinedStr FormattedValue keyword
""".split())

OWN_NAMES = set("""
len range enumerate zip min max sum abs sorted reversed int str bool list tuple dict set frozenset isinstance ord repr
any all divmod Exception ValueError TypeError KeyError IndexError LookupError ZeroDivisionError ArithmeticError
OverflowError RuntimeError NotImplementedError StopIteration
""".split())

METHODS = set("""
append clear copy count endswith extend find get index insert isalnum isalpha isdigit islower isspace isupper items join
keys ljust lower lstrip partition pop remove replace reverse rfind rjust rpartition rsplit rstrip setdefault split
splitlines startswith strip update upper values zfill bit_length
""".split())

NAMES_OUT = set("""
register mro elements open input version_info with_traceback add_note attrgetter breakpoint builtins compile copyright
credits delattr dir eval exec exit gc getattr globals hasattr help id importlib license locals methodcaller os quit
setattr super type vars sys format format_map
""".split())

WORDS_OUT = re.compile(
    r"\b(type|typing|typing_extensions|enum|Enum|IntEnum|StrEnum|Flag|IntFlag|Generic|Protocol|ABC|ABCMeta|namedtuple"
    r"|NamedTuple|TypedDict|TYPE_CHECKING|abstractmethod)\b|dataclass|overload|contextmanager"
)

DUNDERS = {"__init__", "__eq__", "__repr__", "__str__", "__len__"}


def files():
    return sorted(PACKAGE.glob("*.py"))


def trees():
    return [(path.name, ast.parse(path.read_text(encoding="utf-8"))) for path in files()]


def nodes(kind):
    return [(name, node) for name, tree in trees() for node in ast.walk(tree) if isinstance(node, kind)]


def defined(tree):
    found = [node.name for node in tree.body if isinstance(node, (ast.FunctionDef, ast.ClassDef))]
    return found + [target.id for node in tree.body if isinstance(node, ast.Assign) for target in node.targets]


def bound(node):
    if isinstance(node, (ast.FunctionDef, ast.ClassDef)):
        return node.name
    if isinstance(node, ast.arg):
        return node.arg
    if isinstance(node, ast.Name) and isinstance(node.ctx, ast.Store):
        return node.id
    if isinstance(node, ast.Attribute) and isinstance(node.ctx, ast.Store):
        return node.attr
    if isinstance(node, ast.ExceptHandler):
        return node.name
    return None


class Files(unittest.TestCase):
    def test_python_files_alone_with_lower_case_names(self):
        for path in PACKAGE.iterdir():
            if path.name != "__pycache__":
                self.assertRegex(path.name, r"^([a-z][a-z0-9_]*|__init__|__main__)\.py$")
        self.assertIn("__init__.py", [path.name for path in files()])

    def test_signs_and_sizes(self):
        for path in files():
            text = path.read_bytes().decode("ascii")
            self.assertRegex(text, r"\A[ -~\n]*\Z", path.name)
            self.assertLessEqual(len(text.split("\n")), 400, path.name)
            self.assertLessEqual(max(len(row) for row in text.split("\n")), 120, path.name)

    def test_words_that_stand_nowhere(self):
        for path in files():
            self.assertIsNone(WORDS_OUT.search(path.read_text()), path.name)

    def test_functions_are_short(self):
        for name, node in nodes(ast.FunctionDef):
            self.assertLessEqual(node.end_lineno - node.lineno + 1, 40, (name, node.name))


class Forms(unittest.TestCase):
    def test_only_the_nodes_that_are_allowed(self):
        for name, node in nodes(ast.AST):
            self.assertIn(type(node).__name__, NODES, (name, getattr(node, "lineno", 0)))

    def test_plain_constants(self):
        for name, node in nodes(ast.Constant):
            self.assertIn(type(node.value), (int, str, bool, type(None)), (name, node.lineno))
            if isinstance(node.value, str):
                self.assertNotIn("%", node.value, (name, node.lineno))

    def test_statements(self):
        for name, node in nodes((ast.For, ast.While)):
            self.assertEqual(node.orelse, [], (name, node.lineno))
        for name, node in nodes(ast.Assign):
            self.assertEqual(len(node.targets), 1, (name, node.lineno))
        for name, node in nodes(ast.Try):
            self.assertEqual(node.finalbody, [], (name, node.lineno))
        for name, tree in trees():
            calls = [node for node in ast.walk(tree) if isinstance(node, ast.Expr) and node is not tree.body[0]]
            for node in calls:
                self.assertIsInstance(node.value, ast.Call, (name, node.lineno))

    def test_defs(self):
        for name, node in nodes(ast.FunctionDef):
            place = (name, node.name)
            self.assertEqual((node.decorator_list, node.returns), ([], None), place)
            given = node.args
            self.assertEqual((given.vararg, given.kwarg, given.kwonlyargs, given.posonlyargs), (None, None, [], []), place)
            self.assertTrue(all(isinstance(value, ast.Constant) for value in given.defaults), place)
            self.assertTrue(all(one.annotation is None for one in given.args), place)

    def test_classes(self):
        for name, node in nodes(ast.ClassDef):
            self.assertLessEqual(len(node.bases), 1, (name, node.name))
            self.assertEqual((node.decorator_list, node.keywords), ([], []), (name, node.name))
            for part in node.body:
                self.assertIsInstance(part, (ast.FunctionDef, ast.Pass), (name, node.name))

    def test_comprehensions(self):
        for name, node in nodes(ast.ListComp):
            self.assertEqual(len(node.generators), 1, (name, node.lineno))
            self.assertLessEqual(len(node.generators[0].ifs), 1, (name, node.lineno))

    def test_is_beside_none_and_truths_alone(self):
        for name, node in nodes(ast.Compare):
            for sign, side in zip(node.ops, node.comparators):
                if isinstance(sign, (ast.Is, ast.IsNot)):
                    self.assertIn(getattr(side, "value", 0), (None, True, False), (name, node.lineno))

    def test_handlers_name_their_errors(self):
        for name, node in nodes(ast.ExceptHandler):
            self.assertIsNotNone(node.type, (name, node.lineno))
            self.assertNotIn(getattr(node.type, "id", ""), ("Exception", "TypeError"), (name, node.lineno))


class Names(unittest.TestCase):
    def test_names_that_are_bound(self):
        for name, node in nodes(ast.AST):
            word = bound(node)
            if word is None or word in DUNDERS:
                continue
            self.assertRegex(word, r"^[A-Za-z][A-Za-z0-9_]*$", name)
            self.assertNotIn(word, NAMES_OUT, name)
            if not isinstance(node, ast.Attribute):
                self.assertNotIn(word, dir(builtins), name)

    def test_names_of_pythons_own(self):
        for name, node in nodes(ast.Name):
            if node.id in dir(builtins):
                self.assertIn(node.id, OWN_NAMES, (name, node.lineno))

    def test_methods_that_are_called(self):
        own = {node.name for name, node in nodes(ast.FunctionDef)}
        for name, node in nodes(ast.Call):
            if isinstance(node.func, ast.Attribute):
                self.assertIn(node.func.attr, METHODS | own, (name, node.lineno))

    def test_a_name_is_bound_once_at_a_files_top(self):
        for name, tree in trees():
            self.assertEqual(len(defined(tree)), len(set(defined(tree))), name)


class OwnNames(unittest.TestCase):
    def test_no_local_is_called_like_an_import_or_a_class(self):
        for name, tree in trees():
            taken = {one.name for node in tree.body if isinstance(node, ast.ImportFrom) for one in node.names}
            taken |= {node.name for node in tree.body if isinstance(node, ast.ClassDef)}
            for node in ast.walk(tree):
                if isinstance(node, (ast.arg, ast.Name)) and bound(node) is not None:
                    self.assertNotIn(bound(node), taken, name)

    def test_no_name_is_a_method_here_and_a_value_there(self):
        methods = {part.name for name, node in nodes(ast.ClassDef) for part in node.body if isinstance(part, ast.FunctionDef)}
        stored = {node.attr for name, node in nodes(ast.Attribute) if isinstance(node.ctx, ast.Store)}
        self.assertEqual(methods & stored, set())
        # Free is what Python's own values do not have.
        taken = {word for kind in (str, int, list, tuple, dict, set, frozenset, bytes) for word in dir(kind)}
        self.assertEqual((methods - DUNDERS) & taken, set())
        self.assertEqual(stored & taken, set())

    def test_no_method_stands_twice_and_classes_stand_at_the_top(self):
        for name, tree in trees():
            for node in ast.walk(tree):
                if isinstance(node, ast.ClassDef):
                    self.assertIn(node, tree.body, name)
                    found = [part.name for part in node.body if isinstance(part, ast.FunctionDef)]
                    self.assertEqual(len(found), len(set(found)), node.name)

    def test_a_files_top_holds_plain_values(self):
        for name, tree in trees():
            for node in tree.body:
                kinds = (ast.ImportFrom, ast.FunctionDef, ast.ClassDef, ast.Assign, ast.Expr)
                self.assertIsInstance(node, kinds, name)
                if isinstance(node, ast.Assign):
                    ast.literal_eval(node.value)


class Calls(unittest.TestCase):
    WALKED = {"zip", "enumerate", "reversed", "range", "items", "keys", "values"}
    WALKERS = {"list", "tuple", "dict", "sorted", "sum", "any", "all", "enumerate", "zip", "min", "max"}
    KEYWORDS = {"sorted": {"key", "reverse"}, "min": {"key", "default"}, "max": {"key", "default"}, "sum": {"start"},
                "enumerate": {"start"}, "zip": {"strict"}}

    def called(self, node):
        if isinstance(node, ast.Call):
            return getattr(node.func, "id", getattr(node.func, "attr", None))
        return None

    def test_walked_on_the_spot(self):
        for name, tree in trees():
            right = [node.iter for node in ast.walk(tree) if isinstance(node, (ast.For, ast.comprehension))]
            for node in ast.walk(tree):
                if self.called(node) in self.WALKERS and isinstance(node.func, ast.Name):
                    right += node.args if self.called(node) in ("zip", "dict") else node.args[:1]
            for node in ast.walk(tree):
                if self.called(node) in self.WALKED:
                    self.assertIn(node, right, (name, node.lineno))

    def test_what_a_loop_walks_is_not_changed_in_it(self):
        changes = {"append", "clear", "extend", "insert", "pop", "remove", "reverse", "setdefault", "update"}
        for name, loop in nodes(ast.For):
            walked = {ast.unparse(part) for part in ast.walk(loop.iter) if isinstance(part, (ast.Name, ast.Attribute))}
            for node in [part for row in loop.body for part in ast.walk(row)]:
                if isinstance(node, ast.Call) and isinstance(node.func, ast.Attribute) and node.func.attr in changes:
                    self.assertNotIn(ast.unparse(node.func.value), walked - {"self"}, (name, node.lineno))
                if isinstance(node, ast.Subscript) and isinstance(node.ctx, ast.Store):
                    self.assertNotIn(ast.unparse(node.value), walked - {"self"}, (name, node.lineno))

    def test_keywords(self):
        own = {node.name for name, node in nodes(ast.FunctionDef)}
        for name, node in nodes(ast.Call):
            if self.called(node) not in own:
                known = self.KEYWORDS.get(self.called(node), set()) if isinstance(node.func, ast.Name) else set()
                self.assertLessEqual({one.arg for one in node.keywords}, known, (name, node.lineno))

    def test_sets_are_not_kept(self):
        for name, tree in trees():
            held = [node.args[0] for node in ast.walk(tree) if self.called(node) in ("sorted", "len") and node.args]
            for node in ast.walk(tree):
                self.assertNotIsInstance(node, ast.Set, name)
                if self.called(node) in ("set", "frozenset"):
                    self.assertIn(node, held, (name, node.lineno))

    def test_pythons_own_are_called_and_not_handed_on(self):
        for name, tree in trees():
            free = [node.func for node in ast.walk(tree) if isinstance(node, ast.Call)]
            free += [node.args[1] for node in ast.walk(tree) if self.called(node) == "isinstance"]
            for base in [base for node in ast.walk(tree) if isinstance(node, ast.ClassDef) for base in node.bases]:
                free.append(base)
            for node in ast.walk(tree):
                if isinstance(node, ast.Name) and node.id in dir(builtins):
                    self.assertIn(node, free, (name, node.lineno))

    def test_errors_are_made_on_the_spot(self):
        for name, node in nodes(ast.Raise):
            self.assertIsInstance(node.exc, ast.Call, (name, node.lineno))
            if node.cause is not None:
                self.assertIsNone(getattr(node.cause, "value", 0), (name, node.lineno))


class Imports(unittest.TestCase):
    def drawn(self, tree):
        return [node for node in ast.walk(tree) if isinstance(node, (ast.Import, ast.ImportFrom))]

    def test_from_the_file_that_defines_the_name(self):
        known = {name[:-3]: defined(tree) for name, tree in trees()}
        for name, tree in trees():
            for node in self.drawn(tree):
                self.assertIsInstance(node, ast.ImportFrom, name)
                self.assertEqual(node.level, 0, name)
                self.assertRegex(node.module, r"^hookmill\.[a-z0-9_]+$", name)
                self.assertIn(node, tree.body, name)
                for one in node.names:
                    self.assertIn(one.name, known[node.module.split(".")[1]], name)
                    self.assertNotIn(one.asname, NAMES_OUT, name)

    def test_no_two_files_draw_from_one_another(self):
        left = {name[:-3]: {node.module.split(".")[1] for node in self.drawn(tree)} for name, tree in trees()}
        # Each file draws from the package's own __init__ too, which so draws from none.
        self.assertEqual(left["__init__"], set())
        while left:
            free = [name for name in left if not left[name] & set(left)]
            self.assertTrue(free, f"in a ring: {sorted(left)}")
            left = {name: left[name] for name in left if name not in free}


if __name__ == "__main__":
    unittest.main()
