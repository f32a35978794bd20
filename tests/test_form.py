"""The package keeps to the form of LANGUAGE.md, as far as its syntax tree shows."""

import ast
import builtins
import pathlib
import re
import unittest

PACKAGE = pathlib.Path(__file__).resolve().parent.parent / "rankgarth"

ALLOWED_BUILTINS = set("""
    len range enumerate zip min max sum abs sorted reversed int str bool list tuple dict set frozenset
    isinstance ord repr any all divmod Exception ValueError TypeError KeyError IndexError LookupError
    ZeroDivisionError ArithmeticError OverflowError RuntimeError NotImplementedError AttributeError StopIteration
""".split())

ALLOWED_METHODS = set("""
    append clear copy count endswith extend find get index insert isalnum isalpha isdigit islower isspace
    isupper items join keys ljust lower lstrip partition pop remove replace reverse rfind rjust rpartition
    rsplit rstrip setdefault split splitlines startswith strip update upper values zfill bit_length
""".split())

SPECIAL_METHODS = set("__init__ __eq__ __repr__ __str__ __len__".split())

WORDS_NOWHERE = re.compile(
    r"\b(type|typing|typing_extensions|enum|Enum|IntEnum|StrEnum|Flag|IntFlag|Generic|Protocol|ABC|ABCMeta"
    r"|namedtuple|NamedTuple|TypedDict|TYPE_CHECKING|abstractmethod)\b|dataclass|overload|contextmanager"
)

NAMES_NOWHERE = set("register mro elements open input version_info with_traceback add_note format format_map".split())

NO_NAMES = set("""
    attrgetter breakpoint builtins compile copyright credits delattr dir eval exec exit gc getattr globals hasattr
    help id importlib license locals methodcaller os quit setattr super type vars sys chr print
""".split())

FREE_VALUES = set("count index title find get join lower upper split strip copy add".split())

CHANGES = set("append clear extend insert pop remove reverse setdefault update".split())

STATEMENTS = (
    ast.Assign, ast.AugAssign, ast.If, ast.While, ast.For, ast.Return, ast.Break, ast.Continue, ast.Pass,
    ast.Raise, ast.Try, ast.Expr, ast.FunctionDef, ast.ClassDef, ast.ImportFrom,
)

EXPRESSIONS = (
    ast.Constant, ast.Name, ast.List, ast.Tuple, ast.Dict, ast.Set, ast.BinOp, ast.UnaryOp, ast.BoolOp,
    ast.Compare, ast.IfExp, ast.Call, ast.Attribute, ast.Subscript, ast.Slice, ast.ListComp, ast.Lambda,
    ast.JoinedStr, ast.FormattedValue,
)

WALKED_AT_ONCE = ("zip", "enumerate", "reversed", "range")
WALKERS = ("list", "tuple", "dict", "sorted", "sum", "any", "all", "enumerate", "zip", "min", "max")


def files():
    return sorted(PACKAGE.glob("*.py"))


def trees():
    return [(path, ast.parse(path.read_text())) for path in files()]


def nodes_of(kind):
    for path, tree in trees():
        for node in ast.walk(tree):
            if isinstance(node, kind):
                yield path.name, node


def called_name(node):
    if isinstance(node, ast.Call) and isinstance(node.func, ast.Name):
        return node.func.id
    return None


def bound_names(tree):
    for node in ast.walk(tree):
        if isinstance(node, ast.arg):
            yield node.arg
        elif isinstance(node, ast.Name) and isinstance(node.ctx, ast.Store):
            yield node.id
        elif isinstance(node, (ast.FunctionDef, ast.ClassDef)) and node.name not in SPECIAL_METHODS:
            yield node.name


def walked_names(node):
    """The names of what a loop walks, itself or through a call."""
    if isinstance(node, ast.Name):
        return [node.id]
    if isinstance(node, ast.Call):
        parts = node.args + ([node.func.value] if isinstance(node.func, ast.Attribute) else [])
        return [name for part in parts for name in walked_names(part)]
    return []


class FilesTest(unittest.TestCase):
    def test_nothing_but_plain_files(self):
        self.assertIn("__init__.py", [path.name for path in files()])
        for path in PACKAGE.iterdir():
            if path.name != "__pycache__":
                self.assertRegex(path.name, r"^([a-z][a-z0-9_]*|__init__|__main__)\.py$")
                self.assertNotIn(path.stem, set(dir(builtins)))

    def test_signs_words_and_sizes(self):
        for path in files():
            text = path.read_text()
            self.assertRegex(text, r"\A[ -~\n]*\Z", path.name)
            self.assertIsNone(WORDS_NOWHERE.search(text), path.name)
            self.assertLessEqual(len(text.splitlines()), 400, path.name)
            self.assertLessEqual(max([len(line) for line in text.splitlines()], default=0), 120, path.name)
        for name, node in nodes_of(ast.FunctionDef):
            self.assertLessEqual(node.end_lineno - node.lineno + 1, 40, (name, node.name))


class TopTest(unittest.TestCase):
    def test_only_what_may_stand_there_and_each_name_once(self):
        for path, tree in trees():
            names = []
            for number, node in enumerate(tree.body):
                if isinstance(node, ast.Expr):
                    self.assertEqual(number, 0, path.name)
                    self.assertIsInstance(node.value.value, str)
                elif isinstance(node, ast.Assign):
                    names.append(node.targets[0].id)
                elif isinstance(node, ast.ImportFrom):
                    names += [alias.name for alias in node.names]
                else:
                    self.assertIsInstance(node, (ast.FunctionDef, ast.ClassDef), path.name)
                    names.append(node.name)
            self.assertEqual(len(names), len(set(names)), path.name)

    def test_imports_are_from_the_defining_file_and_go_one_way(self):
        drawn = {}
        defined = {}
        for path, tree in trees():
            drawn[path.stem] = []
            defined[path.stem] = [node.name for node in tree.body if isinstance(node, (ast.FunctionDef, ast.ClassDef))]
            defined[path.stem] += [node.targets[0].id for node in tree.body if isinstance(node, ast.Assign)]
        for name, node in nodes_of(ast.ImportFrom):
            self.assertEqual((node.level, node.module.split(".")[0]), (0, "rankgarth"))
            source = node.module.split(".")[1]
            drawn[name[:-3]].append(source)
            for alias in node.names:
                self.assertIsNone(alias.asname)
                self.assertIn(alias.name, defined[source])
        self.assertEqual(drawn["__init__"], [])
        left = set(drawn)
        while left:
            free = [name for name in left if not set(drawn[name]) & left]
            self.assertNotEqual(free, [], "files that draw from one another")
            left -= set(free)


class NamesTest(unittest.TestCase):
    def test_names_are_plain_and_mean_one_thing(self):
        for path, tree in trees():
            imports = [a.name for node in tree.body if isinstance(node, ast.ImportFrom) for a in node.names]
            for name in bound_names(tree):
                self.assertRegex(name, r"^[A-Za-z][A-Za-z0-9_]*$", path.name)
                self.assertNotIn(name, dir(builtins), path.name)
                self.assertNotIn(name, imports, path.name)

    def test_only_the_listed_names_of_python(self):
        for name, node in nodes_of(ast.Name):
            if node.id in dir(builtins):
                self.assertIn(node.id, ALLOWED_BUILTINS, (name, node.lineno))

    def test_only_the_listed_methods_of_python(self):
        own = [node.name for name, node in nodes_of(ast.FunctionDef)]
        for name, node in nodes_of(ast.Call):
            if isinstance(node.func, ast.Attribute):
                self.assertIn(node.func.attr, list(ALLOWED_METHODS) + own, (name, node.lineno))


    def test_names_that_are_not_used(self):
        for path, tree in trees():
            names = [node.id for node in ast.walk(tree) if isinstance(node, ast.Name)] + list(bound_names(tree))
            attributes = [node.attr for node in ast.walk(tree) if isinstance(node, ast.Attribute)]
            self.assertEqual(set(names) & (NAMES_NOWHERE | NO_NAMES), set(), path.name)
            self.assertEqual(set(attributes) & NAMES_NOWHERE, set(), path.name)

    def test_own_methods_and_values_have_free_names(self):
        taken = {name for kind in (str, int, list, dict, set, bytes, tuple) for name in dir(kind)}
        for name, node in nodes_of(ast.ClassDef):
            methods = {part.name for part in node.body if isinstance(part, ast.FunctionDef)} - SPECIAL_METHODS
            self.assertEqual(methods & taken - ALLOWED_METHODS - {"add", "discard"}, set(), name)
        for name, node in nodes_of(ast.Attribute):
            if isinstance(node.ctx, ast.Store):
                self.assertNotIn(node.attr, taken - FREE_VALUES, (name, node.lineno))

    def test_no_parameter_and_no_local_is_called_like_a_class(self):
        for path, tree in trees():
            classes = [node.name for node in ast.walk(tree) if isinstance(node, ast.ClassDef)]
            bound = [node.arg for node in ast.walk(tree) if isinstance(node, ast.arg)]
            bound += [node.id for node in ast.walk(tree) if isinstance(node, ast.Name) and isinstance(node.ctx, ast.Store)]
            self.assertEqual(set(classes) & set(bound), set(), path.name)


class KeptNowhereTest(unittest.TestCase):
    def test_lists_and_dicts_of_the_top_are_only_read(self):
        for path, tree in trees():
            kept = [node for node in tree.body if isinstance(node, ast.Assign) and isinstance(node.value, (ast.List, ast.Dict))]
            tops = {node.targets[0].id for node in kept}
            for node in kept:
                within = [part for part in ast.walk(node.value) if isinstance(part, (ast.List, ast.Dict))]
                self.assertEqual(len(within), 1, (path.name, node.lineno))
            allowed = {node.targets[0] for node in kept}
            for node in ast.walk(tree):
                if isinstance(node, ast.Subscript) and isinstance(node.ctx, ast.Load):
                    allowed.add(node.value)
                elif isinstance(node, (ast.For, ast.comprehension)):
                    allowed.add(node.iter)
                elif isinstance(node, ast.Compare):
                    allowed.update(node.comparators)
            for node in ast.walk(tree):
                if isinstance(node, ast.Name) and node.id in tops:
                    self.assertIn(node, allowed, (path.name, node.lineno))

    def test_what_a_loop_walks_is_not_changed_in_it(self):
        for name, node in nodes_of(ast.For):
            walked = walked_names(node.iter)
            for part in node.body:
                for call in ast.walk(part):
                    if isinstance(call, ast.Call) and isinstance(call.func, ast.Attribute) and call.func.attr in CHANGES:
                        changed = call.func.value
                        self.assertFalse(isinstance(changed, ast.Name) and changed.id in walked, (name, call.lineno))

    def test_errors_are_made_on_the_spot(self):
        for name, node in nodes_of(ast.Raise):
            self.assertIsInstance(node.exc, ast.Call, (name, node.lineno))
        for name, node in nodes_of(ast.ExceptHandler):
            self.assertIsInstance(node.type, ast.Name, (name, node.lineno))
            self.assertNotIn(node.type.id, ("Exception", "TypeError"), (name, node.lineno))


class StatementsTest(unittest.TestCase):
    def test_only_the_listed_ones(self):
        for name, node in nodes_of(ast.stmt):
            where = (name, node.lineno)
            self.assertIsInstance(node, STATEMENTS, where)
            if isinstance(node, ast.Assign):
                self.assertEqual(len(node.targets), 1, where)
            if isinstance(node, (ast.For, ast.While)):
                self.assertEqual(node.orelse, [], where)
            if isinstance(node, ast.Try):
                self.assertEqual(node.finalbody, [], where)
            if isinstance(node, ast.Expr) and node.lineno > 1:
                self.assertIsInstance(node.value, ast.Call, where)

    def test_functions_and_classes(self):
        for name, node in nodes_of(ast.FunctionDef):
            plain = node.args
            self.assertEqual((plain.vararg, plain.kwarg, plain.kwonlyargs, plain.posonlyargs), (None, None, [], []))
            self.assertEqual(node.decorator_list, [])
        for name, node in nodes_of(ast.ClassDef):
            self.assertEqual((node.decorator_list, node.keywords), ([], []))
            self.assertLessEqual(len(node.bases), 1)
            for part in node.body:
                self.assertIsInstance(part, (ast.FunctionDef, ast.Pass), (name, node.name))

    def test_no_name_is_a_method_and_a_value(self):
        methods = [part.name for name, node in nodes_of(ast.ClassDef) for part in node.body
                   if isinstance(part, ast.FunctionDef)]
        for name, node in nodes_of(ast.Attribute):
            if isinstance(node.ctx, ast.Store):
                self.assertNotIn(node.attr, methods, (name, node.lineno))


class ExpressionsTest(unittest.TestCase):
    def test_only_the_listed_ones(self):
        for name, node in nodes_of(ast.expr):
            where = (name, node.lineno)
            self.assertIsInstance(node, EXPRESSIONS, where)
            if isinstance(node, ast.Constant):
                self.assertIsInstance(node.value, (int, str, type(None)), where)
            if isinstance(node, ast.BinOp):
                self.assertNotIsInstance(node.op, (ast.Div, ast.MatMult), where)
            if isinstance(node, ast.ListComp):
                self.assertEqual(len(node.generators), 1, where)
                self.assertLessEqual(len(node.generators[0].ifs), 1, where)
            if isinstance(node, ast.FormattedValue):
                self.assertIsInstance(node.value, ast.Name, where)

    def test_powers_have_a_written_exponent(self):
        for name, node in nodes_of((ast.BinOp, ast.AugAssign)):
            if isinstance(node.op, ast.Pow):
                self.assertIn(node.right.value, range(65), (name, node.lineno))

    def test_texts_have_no_percent_sign(self):
        for name, node in nodes_of(ast.Constant):
            self.assertNotIn("%", str(node.value), (name, node.lineno))

    def test_only_the_listed_keywords(self):
        for name, node in nodes_of(ast.Call):
            told = [keyword.arg for keyword in node.keywords]
            allowed = {"sorted": {"key", "reverse"}, "min": {"key", "default"}, "max": {"key", "default"}}
            self.assertLessEqual(set(told), allowed.get(called_name(node), set()), (name, node.lineno))

    def test_is_stands_beside_none_and_truths_alone(self):
        for name, node in nodes_of(ast.Compare):
            for sign, value in zip(node.ops, node.comparators):
                if isinstance(sign, (ast.Is, ast.IsNot)):
                    self.assertIn(value.value, (None, True, False), (name, node.lineno))

    def test_walks_are_not_kept(self):
        for path, tree in trees():
            allowed = set()
            for node in ast.walk(tree):
                if isinstance(node, (ast.For, ast.comprehension)):
                    allowed.add(node.iter)
                elif called_name(node) in WALKERS:
                    allowed.update(node.args)
            for node in ast.walk(tree):
                if called_name(node) in WALKED_AT_ONCE:
                    self.assertIn(node, allowed, (path.name, node.lineno))

    def test_sets_are_not_kept(self):
        for path, tree in trees():
            allowed = set()
            for node in ast.walk(tree):
                if called_name(node) in ("sorted", "len"):
                    allowed.update(ast.walk(node))
                elif isinstance(node, ast.Compare):
                    allowed.update(ast.walk(node))
            for node in ast.walk(tree):
                if called_name(node) in ("set", "frozenset"):
                    self.assertIn(node, allowed, (path.name, node.lineno))


if __name__ == "__main__":
    unittest.main()
