"""Some of the rules of the language, each named by its number in its test.

Not looked at here: L9, L11, L28, and parts of the others. Some checks are
narrower than their rule: no set is used at all, no annotation, no docstring
but a file's own.
"""

import ast
import builtins
import pathlib
import re
import unittest

PACKAGE = pathlib.Path(__file__).resolve().parent.parent / "rightname"

STATEMENTS = (
    ast.FunctionDef, ast.ClassDef, ast.ImportFrom, ast.Assign, ast.AugAssign, ast.If, ast.While,
    ast.For, ast.Return, ast.Break, ast.Continue, ast.Pass, ast.Raise, ast.Try, ast.Expr,
)
EXPRESSIONS = (
    ast.Constant, ast.List, ast.Tuple, ast.Dict, ast.Set, ast.BinOp, ast.UnaryOp, ast.BoolOp,
    ast.Compare, ast.IfExp, ast.Call, ast.Attribute, ast.Subscript, ast.Slice, ast.ListComp,
    ast.JoinedStr, ast.FormattedValue, ast.Name, ast.Lambda,
)
OWN_NAMES = (
    "len range enumerate zip min max sum abs sorted reversed int str bool list tuple dict set "
    "frozenset isinstance ord repr any all divmod Exception ValueError TypeError KeyError "
    "IndexError LookupError ZeroDivisionError ArithmeticError OverflowError RuntimeError "
    "NotImplementedError AttributeError StopIteration"
).split()
WORDS = (
    "type typing typing_extensions enum Enum IntEnum StrEnum Flag IntFlag Generic Protocol ABC "
    "ABCMeta namedtuple NamedTuple TypedDict TYPE_CHECKING abstractmethod"
).split()
NO_NAMES = "register mro elements open input version_info with_traceback add_note".split()
METHODS = (
    "append clear copy count endswith extend find get index insert isalnum isalpha isdigit islower "
    "isspace isupper items join keys ljust lower lstrip partition pop remove replace reverse rfind "
    "rjust rpartition rsplit rstrip setdefault split splitlines startswith strip update upper values "
    "zfill bit_length"
).split()
KEYWORDS = {
    "sorted": ("key", "reverse"), "min": ("key", "default"), "max": ("key", "default"),
    "sum": ("start",), "enumerate": ("start",), "zip": ("strict",),
}
WALKED = ("zip", "enumerate", "reversed", "range")
WALKERS = ("list", "tuple", "dict", "sorted", "sum", "any", "all", "enumerate", "zip", "min", "max")
DUNDERS = ("__init__", "__eq__", "__repr__", "__str__", "__len__")


def sources():
    return [(path.name, path.read_bytes().decode("ascii")) for path in sorted(PACKAGE.glob("*.py"))]


def trees():
    return [(name, ast.parse(text)) for name, text in sources()]


def bound_names(tree):
    for node in ast.walk(tree):
        if isinstance(node, (ast.FunctionDef, ast.ClassDef)):
            yield node.name
        elif isinstance(node, ast.arg):
            yield node.arg
        elif isinstance(node, ast.Name) and isinstance(node.ctx, ast.Store):
            yield node.id
        elif isinstance(node, ast.Attribute):
            yield node.attr


def own_methods():
    return [
        part.name for name, tree in trees() for node in ast.walk(tree) if isinstance(node, ast.ClassDef)
        for part in node.body if isinstance(part, ast.FunctionDef) and part.name not in DUNDERS
    ]


def error_classes():
    tree = dict(trees())["errors.py"]
    return [node.name for node in tree.body if isinstance(node, ast.ClassDef)]


def is_walked(node):
    """Whether a call makes something that is to be walked on the spot."""
    if not isinstance(node, ast.Call):
        return False
    if isinstance(node.func, ast.Name):
        return node.func.id in WALKED
    return isinstance(node.func, ast.Attribute) and node.func.attr in ("items", "keys", "values")


def is_plain(value, functions):
    if isinstance(value, (ast.List, ast.Tuple)):
        return all(is_plain(part, functions) for part in value.elts)
    if isinstance(value, ast.Dict):
        return all(is_plain(part, functions) for part in value.keys + value.values)
    return isinstance(value, ast.Constant) or isinstance(value, ast.Name) and value.id in functions


class Files(unittest.TestCase):
    def test_l1_l14_only_source_files_of_plain_names(self):
        found = [path.name for path in PACKAGE.iterdir() if path.name != "__pycache__"]
        self.assertIn("__init__.py", found)
        for name in found:
            self.assertRegex(name, r"^(__init__|[a-z][a-z0-9_]*)\.py$")

    def test_l10_sizes(self):
        for name, text in sources():
            rows = text.split("\n")
            self.assertLessEqual(len(rows), 400, name)
            for row in rows:
                self.assertLessEqual(len(row), 120, name)
        for name, tree in trees():
            for node in ast.walk(tree):
                if isinstance(node, ast.FunctionDef):
                    self.assertLessEqual(node.end_lineno - node.lineno + 1, 40, (name, node.name))

    def test_l14_signs(self):
        for name, text in sources():
            self.assertRegex(text, r"\A[ -~\n]*\Z", name)

    def test_l17_words(self):
        for name, text in sources():
            self.assertNotRegex(text, r"\b(" + "|".join(WORDS) + r")\b", name)
            self.assertNotRegex(text, r"dataclass|overload|contextmanager", name)


class Forms(unittest.TestCase):
    def test_l6_l7_statements_and_expressions(self):
        for name, tree in trees():
            for node in ast.walk(tree):
                place = (name, getattr(node, "lineno", 0), node)
                if isinstance(node, ast.stmt):
                    self.assertIsInstance(node, STATEMENTS, place)
                if isinstance(node, ast.expr):
                    self.assertIsInstance(node, EXPRESSIONS, place)
                if isinstance(node, ast.Constant):
                    self.assertIn(type(node.value), (int, str, bool, type(None)), place)
                self.assertFalse(isinstance(node, ast.Div), place)
                self.assertFalse(isinstance(node, ast.Assign) and len(node.targets) != 1, place)
                self.assertFalse(isinstance(node, (ast.For, ast.While)) and node.orelse, place)
                self.assertFalse(isinstance(node, ast.Try) and node.finalbody, place)

    def test_l2_l3_l16_the_top_of_a_file(self):
        for name, tree in trees():
            self.assertTrue(ast.get_docstring(tree), name)
            for node in ast.walk(tree):
                if isinstance(node, ast.ImportFrom):
                    self.assertRegex(node.module, r"^rightname\.[a-z_]+$", name)
                    self.assertEqual(node.level, 0, name)
                    self.assertIn(node, tree.body, name)
            for node in tree.body[1:]:
                self.assertIsInstance(node, (ast.ImportFrom, ast.FunctionDef, ast.ClassDef, ast.Assign), name)

    def test_l16_no_two_files_draw_from_one_another(self):
        drawn = {
            name[:-3]: [node.module.split(".")[1] for node in tree.body if isinstance(node, ast.ImportFrom)]
            for name, tree in trees()
        }
        while drawn:
            done = [name for name in drawn if not set(drawn[name]) & set(drawn)]
            self.assertTrue(done, drawn)
            drawn = {name: drawn[name] for name in drawn if name not in done}

    def test_l4_l5_functions_and_classes(self):
        for name, tree in trees():
            for node in ast.walk(tree):
                if isinstance(node, (ast.FunctionDef, ast.ClassDef)):
                    self.assertEqual(node.decorator_list, [], (name, node.name))
                if isinstance(node, ast.arguments):
                    self.assertFalse(node.vararg or node.kwarg or node.kwonlyargs or node.posonlyargs, name)
                if isinstance(node, ast.ClassDef):
                    self.assertLessEqual(len(node.bases), 1, (name, node.name))
                    for part in node.body:
                        self.assertIsInstance(part, (ast.FunctionDef, ast.Pass), (name, node.name))

    def test_l8_l12_l15_l17_names(self):
        theirs = dir(builtins)
        for name, tree in trees():
            for bound in bound_names(tree):
                self.assertNotIn(bound, NO_NAMES, name)
                if bound not in DUNDERS:
                    self.assertTrue(re.fullmatch(r"[A-Za-z][A-Za-z0-9_]*", bound), (name, bound))
            for node in ast.walk(tree):
                if isinstance(node, ast.arg):
                    self.assertNotIn(node.arg, theirs, name)
                if isinstance(node, ast.Name) and node.id in theirs:
                    self.assertIn(node.id, OWN_NAMES, name)
                    self.assertIsInstance(node.ctx, ast.Load, (name, node.id))

    def test_l18_no_name_is_a_method_and_a_value(self):
        methods, values = set(), set()
        for name, tree in trees():
            for node in ast.walk(tree):
                if isinstance(node, ast.ClassDef):
                    methods.update(part.name for part in node.body if isinstance(part, ast.FunctionDef))
                if isinstance(node, ast.Attribute) and isinstance(node.ctx, ast.Store):
                    values.add(node.attr)
        self.assertEqual(methods & values, set())

    def test_l20_is_stands_beside_none_true_and_false_alone(self):
        for name, tree in trees():
            for node in ast.walk(tree):
                if isinstance(node, ast.Compare):
                    for operator, right in zip(node.ops, node.comparators):
                        if isinstance(operator, (ast.Is, ast.IsNot)):
                            self.assertIsInstance(right, ast.Constant, (name, node.lineno))
                            self.assertIn(right.value, (None, True, False), (name, node.lineno))

    def test_l3_l15_names_at_the_top(self):
        for name, tree in trees():
            functions = [node.name for node in tree.body if isinstance(node, ast.FunctionDef)]
            bound = []
            for node in tree.body:
                if isinstance(node, ast.ImportFrom):
                    bound += [part.asname or part.name for part in node.names]
                elif isinstance(node, (ast.FunctionDef, ast.ClassDef)):
                    bound.append(node.name)
                elif isinstance(node, ast.Assign):
                    self.assertIsInstance(node.targets[0], ast.Name, name)
                    self.assertTrue(is_plain(node.value, functions), (name, node.lineno))
                    bound.append(node.targets[0].id)
            self.assertEqual(len(bound), len(set(bound)), name)

    def test_l15_no_local_is_called_like_a_name_of_the_top(self):
        for name, tree in trees():
            tops = [part.asname or part.name for node in tree.body if isinstance(node, ast.ImportFrom)
                    for part in node.names]
            tops += [node.name for node in tree.body if isinstance(node, (ast.FunctionDef, ast.ClassDef))]
            for outer in ast.walk(tree):
                if not isinstance(outer, ast.FunctionDef):
                    continue
                for node in ast.walk(outer):
                    if isinstance(node, ast.arg):
                        self.assertNotIn(node.arg, tops, (name, outer.name))
                    if isinstance(node, ast.Name) and isinstance(node.ctx, ast.Store):
                        self.assertNotIn(node.id, tops, (name, outer.name))

    def test_l6_l21_calls_by_themselves_and_no_annotation(self):
        for name, tree in trees():
            for node in ast.walk(tree):
                if isinstance(node, ast.Expr) and node not in tree.body[:1]:
                    self.assertIsInstance(node.value, ast.Call, (name, node.lineno))
                if isinstance(node, ast.arg):
                    self.assertIsNone(node.annotation, name)
                if isinstance(node, ast.FunctionDef):
                    self.assertIsNone(node.returns, name)

    def test_l19_errors_are_taken_and_raised_by_name(self):
        own = error_classes()
        for name, tree in trees():
            for node in ast.walk(tree):
                if isinstance(node, ast.ExceptHandler):
                    self.assertIsInstance(node.type, ast.Name, (name, node.lineno))
                    self.assertIn(node.type.id, own + ["KeyError"], (name, node.lineno))
                if isinstance(node, ast.Raise):
                    self.assertIsInstance(node.exc, ast.Call, (name, node.lineno))
                    self.assertIn(node.exc.func.id, own, (name, node.lineno))

    def test_l22_keywords(self):
        own = error_classes()
        for name, tree in trees():
            for node in ast.walk(tree):
                if not isinstance(node, ast.Call) or not node.keywords:
                    continue
                place = (name, node.lineno)
                if isinstance(node.func, ast.Attribute):
                    self.assertNotIn(node.func.attr, METHODS, place)
                elif node.func.id in OWN_NAMES:
                    for keyword in node.keywords:
                        self.assertIn(keyword.arg, KEYWORDS.get(node.func.id, ()), place)
                else:
                    self.assertNotIn(node.func.id, own, place)

    def test_l23_walked_at_once(self):
        for name, tree in trees():
            good = []
            for node in ast.walk(tree):
                if isinstance(node, (ast.For, ast.comprehension)):
                    good.append(node.iter)
                if isinstance(node, ast.Call) and isinstance(node.func, ast.Name) and node.func.id in WALKERS:
                    good += node.args[:1]
                if isinstance(node, ast.Call) and isinstance(node.func, ast.Attribute) and node.func.attr == "join":
                    good += node.args
            for node in ast.walk(tree):
                if is_walked(node):
                    self.assertIn(node, good, (name, node.lineno))

    def test_l24_no_set_at_all(self):
        for name, tree in trees():
            for node in ast.walk(tree):
                self.assertFalse(isinstance(node, ast.Set), (name, getattr(node, "lineno", 0)))
                if isinstance(node, ast.Name):
                    self.assertNotIn(node.id, ("set", "frozenset"), (name, node.lineno))

    def test_l25_methods_are_called_where_they_stand(self):
        mine = own_methods()
        for name, tree in trees():
            called = [node.func for node in ast.walk(tree) if isinstance(node, ast.Call)]
            for node in ast.walk(tree):
                if not isinstance(node, ast.Attribute):
                    continue
                if node in called:
                    self.assertIn(node.attr, METHODS + mine + list(DUNDERS), (name, node.lineno))
                else:
                    self.assertNotIn(node.attr, METHODS + mine, (name, node.lineno))

    def test_l26_own_methods_and_values(self):
        theirs = dir("") + dir(1) + dir([]) + dir({}) + dir(set()) + dir(b"") + ["args"]
        for name in own_methods():
            self.assertNotIn(name, theirs)
        for name, tree in trees():
            for node in ast.walk(tree):
                if isinstance(node, ast.Attribute) and isinstance(node.ctx, ast.Store):
                    self.assertNotIn(node.attr, theirs, (name, node.lineno))

    def test_l27_texts(self):
        for name, tree in trees():
            for node in ast.walk(tree):
                if isinstance(node, ast.Constant) and isinstance(node.value, str):
                    self.assertNotIn("%", node.value, (name, node.lineno))
                if isinstance(node, ast.Name):
                    self.assertNotEqual(node.id, "chr", (name, node.lineno))
        for name, text in sources():
            self.assertNotRegex(text, r"""\\[^nt\\'"]""", name)


if __name__ == "__main__":
    unittest.main()
