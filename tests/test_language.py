"""Whether the package's files keep to those rules of LANGUAGE.md that can be seen row by row."""

import ast
import builtins
import pathlib
import re
import unittest

FOLDER = pathlib.Path(__file__).resolve().parent.parent / "clockhouse"
FILES = {path.stem: path for path in sorted(FOLDER.glob("*.py"))}
TEXTS = {stem: path.read_text(encoding="utf-8") for stem, path in FILES.items()}
TREES = {stem: ast.parse(text) for stem, text in TEXTS.items()}

NODES = """Module FunctionDef ClassDef arguments arg Return Assign AugAssign For While If Raise Try ExceptHandler Assert
ImportFrom alias Expr Pass Break Continue Delete BoolOp BinOp UnaryOp Lambda IfExp Dict Set ListComp SetComp DictComp
comprehension Compare Call JoinedStr FormattedValue Constant Attribute Subscript Starred Name List Tuple Slice Load
Store Del keyword And Or Add Sub Mult FloorDiv Mod Pow LShift RShift BitOr BitXor BitAnd Invert Not USub UAdd Eq NotEq Lt LtE
Gt GtE Is IsNot In NotIn""".split()
OWN_NAMES = """len range enumerate zip min max sum abs sorted reversed int str bool bytes list tuple dict set isinstance
ord repr any all divmod Exception ValueError TypeError KeyError IndexError LookupError ZeroDivisionError
ArithmeticError OverflowError RuntimeError NotImplementedError AttributeError StopIteration""".split()
METHODS = """append clear copy count endswith extend find get index insert isalnum isalpha isdigit islower isspace
isupper items join keys ljust lower lstrip partition pop remove replace reverse rfind rjust rpartition rsplit rstrip
setdefault split splitlines startswith strip update upper values zfill bit_length add discard sort __init__""".split()
DUNDERS = ("__init__", "__eq__", "__repr__", "__str__", "__len__")
NO_WORDS = """type typing typing_extensions enum Enum IntEnum StrEnum Flag IntFlag Generic Protocol ABC ABCMeta namedtuple
NamedTuple TypedDict TYPE_CHECKING abstractmethod""".split()
NO_NAMES = """register mro elements open input version_info with_traceback add_note attrgetter breakpoint builtins compile
copyright credits delattr dir eval exec exit gc getattr globals hasattr help id importlib license locals methodcaller
os quit setattr super type vars sys""".split()
KEYWORDS = {"sorted": ("key", "reverse"), "min": ("key", "default"), "max": ("key", "default"), "sum": ("start",),
            "enumerate": ("start",), "zip": ("strict",), "sort": ("key", "reverse")}
WALKED = ("zip", "enumerate", "reversed", "range")
CHANGES = "append clear extend insert pop remove reverse setdefault update add discard sort".split()
WALKERS = ("list", "tuple", "dict", "sorted", "sum", "any", "all", "enumerate", "zip", "bytes", "min", "max")


def nodes(*kinds):
    """All nodes of these kinds in the package, each with its file's name."""
    return [(stem, node) for stem, tree in TREES.items() for node in ast.walk(tree) if isinstance(node, kinds)]


def top_names(stem):
    """The names that a file binds at its top, imports left out."""
    names = []
    for node in TREES[stem].body:
        if isinstance(node, (ast.FunctionDef, ast.ClassDef)):
            names.append(node.name)
        if isinstance(node, ast.Assign):
            names.extend([target.id for target in node.targets])
    return names


def imported(stem):
    return [alias.name for node in TREES[stem].body if isinstance(node, ast.ImportFrom) for alias in node.names]


def drawn_from(stem):
    return [node.module.split(".")[1] for node in TREES[stem].body if isinstance(node, ast.ImportFrom)]


class Language(unittest.TestCase):
    def hold(self, holds, rule, stem, node):
        self.assertTrue(holds, f"{rule}: {stem}.py, row {getattr(node, 'lineno', node)}")

    def test_files(self):
        self.assertIn("__init__", FILES)
        for path in FOLDER.iterdir():
            if path.name != "__pycache__":
                self.assertRegex(path.name, r"\A[a-z_0-9]+\.py\Z", "L1, L14")

    def test_signs_and_sizes(self):
        for stem, text in TEXTS.items():
            self.hold(len(text.splitlines()) <= 400, "L10", stem, 400)
            for number, row in enumerate(text.split("\n"), 1):
                self.hold(len(row) <= 120, "L10", stem, number)
                self.hold(all(" " <= sign <= "~" for sign in row), "L14", stem, number)
        for stem, node in nodes(ast.FunctionDef):
            self.hold(node.end_lineno - node.lineno < 40, "L10", stem, node)

    def test_words(self):
        for stem, text in TEXTS.items():
            for number, row in enumerate(text.split("\n"), 1):
                self.hold(not set(re.findall(r"\w+", row)) & set(NO_WORDS), "L17", stem, number)
                self.hold(not re.search("dataclass|overload|contextmanager", row), "L17", stem, number)

    def test_kinds_of_node(self):
        for stem, node in nodes(ast.AST):
            self.hold(type(node).__name__ in NODES, "L6, L7 " + type(node).__name__, stem, node)
        for stem, node in nodes(ast.For, ast.While):
            self.hold(not node.orelse, "L6", stem, node)
        for stem, node in nodes(ast.Constant):
            self.hold(not isinstance(node.value, (float, complex)), "L7", stem, node)
            self.hold(not isinstance(node.value, str) or "%" not in node.value, "L27", stem, node)
        for stem, node in nodes(ast.Starred):
            self.hold(isinstance(node.ctx, ast.Store), "L7", stem, node)
        for stem, node in nodes(ast.FormattedValue):
            self.hold(node.format_spec is None, "L7", stem, node)

    def test_tops(self):
        for stem, tree in TREES.items():
            for at, node in enumerate(tree.body):
                kinds = (ast.ImportFrom, ast.FunctionDef, ast.ClassDef, ast.Assign)
                self.hold(isinstance(node, kinds) or at == 0 and isinstance(node, ast.Expr), "L3", stem, node)
            names = top_names(stem) + imported(stem)
            self.assertEqual(len(names), len(set(names)), "L15: " + stem)

    def test_imports(self):
        for stem, node in nodes(ast.ImportFrom):
            package, own = node.module.split(".")
            self.hold(package == "clockhouse" and node.level == 0, "L2", stem, node)
            self.hold(node in TREES[stem].body, "L2", stem, node)
            for alias in node.names:
                self.hold(alias.name in top_names(own) and alias.asname is None, "L16", stem, node)
        for stem in FILES:
            due = drawn_from(stem)
            for other in due:
                due.extend([name for name in drawn_from(other) if name not in due])
            self.assertNotIn(stem, due, "L16")

    def test_defs_and_classes(self):
        for stem, node in nodes(ast.FunctionDef):
            parts = node.args
            self.hold(not (parts.vararg or parts.kwarg or parts.posonlyargs or node.decorator_list), "L4", stem, node)
        for stem, node in nodes(ast.ClassDef):
            self.hold(node in TREES[stem].body, "L15", stem, node)
            self.hold(len(node.bases) <= 1 and not node.keywords and not node.decorator_list, "L5", stem, node)
            for at, row in enumerate(node.body):
                self.hold(isinstance(row, ast.FunctionDef) or at == 0 and isinstance(row, ast.Expr), "L5", stem, row)

    def test_names(self):
        methods = [row.name for stem, node in nodes(ast.ClassDef) for row in node.body if hasattr(row, "name")]
        fields = [node.attr for stem, node in nodes(ast.Attribute) if isinstance(node.ctx, ast.Store)]
        self.assertFalse(set(methods) & set(fields), "L18")
        for stem, node in nodes(ast.Attribute):
            self.hold(node.attr in METHODS + methods + fields, "L18, L25", stem, node)
        for stem, node in nodes(ast.Name, ast.arg, ast.FunctionDef, ast.ClassDef):
            name = getattr(node, "id", None) or getattr(node, "arg", None) or node.name
            self.hold(re.fullmatch("[A-Za-z][A-Za-z0-9_]*", name) or name in DUNDERS, "L12", stem, node)
            self.hold(name not in NO_NAMES, "L17", stem, node)
            stored = not isinstance(node, ast.Name) or not isinstance(node.ctx, ast.Load)
            if stored and name not in methods:
                self.hold(not hasattr(builtins, name), "L8, L15", stem, node)
                self.hold(name not in imported(stem), "L15", stem, node)
            elif hasattr(builtins, name):
                self.hold(name in OWN_NAMES + methods, "L8", stem, node)

    def test_keywords(self):
        for stem, node in nodes(ast.Call):
            name = getattr(node.func, "id", None) or getattr(node.func, "attr", None)
            for keyword in node.keywords:
                own = name not in METHODS and not hasattr(builtins, name)
                self.hold(own or keyword.arg in KEYWORDS.get(name, ()), "L22", stem, node)

    def test_is_stands_beside_none_and_truths(self):
        for stem, node in nodes(ast.Compare):
            for sign, thing in zip(node.ops, node.comparators):
                if isinstance(sign, (ast.Is, ast.IsNot)):
                    plain = isinstance(thing, ast.Constant) and thing.value in (None, True, False)
                    self.hold(plain, "L20", stem, node)

    def test_raised_on_the_spot(self):
        for stem, node in nodes(ast.Raise):
            named = isinstance(node.exc, ast.Call) and isinstance(node.exc.func, ast.Name)
            self.hold(node.exc is None or named, "L19", stem, node)

    def test_walked_at_once(self):
        walked = []
        for stem, node in nodes(ast.For, ast.comprehension):
            walked.append(node.iter)
        for stem, node in nodes(ast.Call):
            named = isinstance(node.func, ast.Name) and node.func.id in WALKERS
            if named or isinstance(node.func, ast.Attribute) and node.func.attr == "join":
                walked.extend(node.args)
        for stem, node in nodes(ast.Call):
            name = getattr(node.func, "id", None) or getattr(node.func, "attr", None)
            if name in WALKED + ("items", "keys", "values"):
                self.hold(node in walked, "L23", stem, node)

    def test_what_is_walked_is_not_changed(self):
        for stem, node in nodes(ast.For):
            walked = [ast.unparse(part) for part in ast.walk(node.iter) if isinstance(part, (ast.Name, ast.Attribute))]
            for part in [part for row in node.body for part in ast.walk(row)]:
                changed = None
                if isinstance(part, ast.Call) and isinstance(part.func, ast.Attribute) and part.func.attr in CHANGES:
                    changed = ast.unparse(part.func.value)
                if isinstance(part, ast.Subscript) and not isinstance(part.ctx, ast.Load):
                    changed = ast.unparse(part.value)
                self.hold(changed not in walked, "L23", stem, part)


if __name__ == "__main__":
    unittest.main()
