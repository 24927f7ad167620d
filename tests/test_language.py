"""The package keeps to the rules of LANGUAGE.md, as far as a test can see them.

A finding is a tuple of the rule, the file and the line.
"""

import ast
import builtins
import pathlib
import re
import unittest
import warnings

FOLDER = pathlib.Path(__file__).resolve().parent.parent / "floodline"

BUILTINS = set("""len range enumerate zip min max sum abs sorted reversed int str bool bytes list tuple dict set
frozenset isinstance ord repr any all divmod type getattr hasattr setattr iter next map super property staticmethod
classmethod Exception ValueError TypeError KeyError IndexError LookupError ZeroDivisionError ArithmeticError
OverflowError RuntimeError NotImplementedError AttributeError StopIteration NotImplemented""".split())
METHODS = set("""append clear copy count endswith extend find get index insert isalnum isalpha isdigit islower isspace
isupper items join keys ljust lower lstrip partition pop remove replace reverse rfind rjust rpartition rsplit rstrip
setdefault split splitlines startswith strip update upper values zfill bit_length sort add discard appendleft popleft
removeprefix removesuffix __init__""".split())
DOUBLE = set("""__init__ __eq__ __repr__ __str__ __len__ __enter__ __exit__ __call__ __iter__""".split())
# Not as an attribute, though some may be methods (L26).
BARRED_ATTRIBUTES = set("""items keys values pop update append clear extend insert remove reverse setdefault sort args
encode decode hex fromhex format as_integer_ratio bit_count conjugate from_bytes is_integer to_bytes format_map
mro""".split())
# Not in names and strings, but in comments and docstrings; "type" only as a call (L17, L8).
BARRED_WORDS = set("""type typing typing_extensions enum Enum IntEnum StrEnum Flag IntFlag Generic Protocol ABC ABCMeta
namedtuple NamedTuple TypedDict TYPE_CHECKING abstractmethod""".split())
LIBRARY = {"heapq": {"heappush", "heappop", "heapify", "heapreplace", "heappushpop"},
           "math": {"gcd", "lcm", "isqrt", "comb", "perm", "factorial"},
           "itertools": {"product", "combinations", "permutations", "chain", "accumulate", "pairwise", "islice",
                         "zip_longest"},
           "collections": {"defaultdict", "deque"}, "__future__": {"annotations"}}
DECORATORS = {"property", "staticmethod", "classmethod"}
BARRED_NODES = (ast.AsyncFunctionDef, ast.AsyncFor, ast.AsyncWith, ast.Await, ast.Global, ast.Div, ast.MatMult,
                ast.MatchMapping, ast.TryStar)
BARRED_NAMES = set("register mro elements open input law version_info with_traceback add_note".split())
VIEWS = set("zip enumerate reversed range items keys values".split())
ITERATE_AT_ONCE = set("list tuple dict sorted sum any all enumerate zip bytes min max".split())
BARRED_FILES = ("law_", "test", "site", "conftest", "sitecustomize", "usercustomize")


def sources():
    """Return the texts of the files of the package by their names."""
    return {path.name: path.read_text(encoding="utf-8") for path in sorted(FOLDER.glob("*.py"))}


def text_findings(name, text):
    """Return where a file breaks a rule about its lines and characters (L10, L14)."""
    rows = text.split("\n")
    found = [("L10", name, len(rows))] if len(rows) > 400 else []
    for number, row in enumerate(rows, 1):
        if len(row) > 120 or "\t" in row:
            found.append(("L10", name, number))
        if not all(" " <= letter <= "~" for letter in row):
            found.append(("L14", name, number))
    return found


def module_findings(name, tree):
    """Return where something else than a definition or a plain value stands at module level (L3)."""
    found = []
    for at, node in enumerate(tree.body):
        docstring = at == 0 and isinstance(node, ast.Expr) and isinstance(node.value, ast.Constant)
        plain = isinstance(node, ast.Assign) and len(node.targets) == 1 and isinstance(node.targets[0], ast.Name)
        calls = [inner for inner in ast.walk(node) if isinstance(inner, (ast.Call, ast.Attribute))]
        if isinstance(node, ast.Import):
            found.append(("L2", name, node.lineno))
        elif not docstring and not isinstance(node, (ast.ImportFrom, ast.FunctionDef, ast.ClassDef)):
            if not plain or calls:
                found.append(("L3", name, node.lineno))
    return found


def defined_in(tree):
    """Return the names that a file binds at module level, with repetitions; imports are left out."""
    names = [node.name for node in tree.body if isinstance(node, (ast.FunctionDef, ast.ClassDef))]
    return names + [node.targets[0].id for node in tree.body if isinstance(node, ast.Assign)]


def imported_by(tree):
    return [node for node in ast.walk(tree) if isinstance(node, ast.ImportFrom)]


def import_findings(name, trees):
    """Return where an import is not of a name that the named file defines (L2, L16), or of no use."""
    found = []
    tree = trees[name]
    used = {node.id for node in ast.walk(tree) if isinstance(node, ast.Name)}
    for node in imported_by(tree):
        names = {alias.name for alias in node.names}
        origin = (node.module or "").removeprefix("floodline.") + ".py"
        own = origin in trees and names <= set(defined_in(trees[origin]))
        if node.level or node not in tree.body or not (own or names <= LIBRARY.get(node.module, set())):
            found.append(("L2", name, node.lineno))
        if any(alias.asname for alias in node.names) or not names <= used | {"annotations"}:
            found.append(("L16", name, node.lineno))
    return found


def circle_findings(trees):
    """Return the files that import each other (L16)."""
    wants = {name: {node.module.removeprefix("floodline.") + ".py" for node in imported_by(tree)} & set(trees)
             for name, tree in trees.items()}
    while any(not wanted for wanted in wants.values()):
        free = {name for name, wanted in wants.items() if not wanted}
        wants = {name: wanted - free for name, wanted in wants.items() if name not in free}
    return [("L16", name, 1) for name in wants]


def bound_names(tree):
    """Return the nodes with the names that they bind, methods left out."""
    found = []
    for node in ast.walk(tree):
        if isinstance(node, ast.Name) and not isinstance(node.ctx, ast.Load):
            found.append((node, node.id))
        elif isinstance(node, ast.arg):
            found.append((node, node.arg))
        elif isinstance(node, ast.ClassDef):
            found.append((node, node.name))
    return found + [(node, node.name) for node in tree.body if isinstance(node, ast.FunctionDef)]


def name_findings(name, tree):
    """Return where a name is bound that means something else, or is not plain (L12, L15, L17)."""
    found = []
    imports = [alias.name for node in imported_by(tree) for alias in node.names]
    taken = set(imports) | {node.name for node in tree.body if isinstance(node, ast.ClassDef)}
    once = defined_in(tree) + imports
    for node, bound in bound_names(tree):
        if not re.fullmatch(r"_|_?[A-Za-z][A-Za-z0-9_]*", bound):
            found.append(("L12", name, node.lineno))
        if bound in vars(builtins) or once.count(bound) > 1:
            found.append(("L15", name, node.lineno))
        if bound in taken and not isinstance(node, ast.ClassDef):
            found.append(("L15", name, node.lineno))
        if bound in BARRED_NAMES:
            found.append(("L17", name, node.lineno))
    return found


def class_findings(name, node):
    """Return where a class breaks a rule (L5, L28)."""
    found = [("L5", name, node.lineno)] if node.decorator_list or node.keywords else []
    for part in node.body:
        if not isinstance(part, (ast.FunctionDef, ast.Assign, ast.Expr)):
            found.append(("L5", name, part.lineno))
        if isinstance(part, ast.FunctionDef):
            found += method_findings(name, part)
    return found


def method_findings(name, node):
    """Return where a method breaks a rule (L5, L28)."""
    found = []
    decorators = [part.id for part in node.decorator_list if isinstance(part, ast.Name)]
    returns = [part for part in ast.walk(node) if isinstance(part, ast.Return)]
    if node.name.startswith("__") and node.name not in DOUBLE:
        found.append(("L5", name, node.lineno))
    if node.name == "__init__" and returns:
        found.append(("L28", name, node.lineno))
    if node.name == "__len__" and not all(called(part.value) == "len" for part in returns):
        found.append(("L28", name, node.lineno))
    if node.name in ("__eq__", "__len__") and (changed_in(node) or not isinstance(node.body[-1], ast.Return)):
        found.append(("L28", name, node.lineno))
    if "property" in decorators and [part for part in changed_in(node) if not isinstance(part, ast.Name)]:
        found.append(("L5", name, node.lineno))
    if "classmethod" in decorators and not all(is_called_or_read(node, part) for part in names_in(node, "cls")):
        found.append(("L5", name, node.lineno))
    return found


def changed_in(node):
    """Return the names, attributes and items that a function assigns, those of its comprehensions left out."""
    targets = []
    for part in ast.walk(node):
        if isinstance(part, ast.Assign):
            targets += part.targets
        elif isinstance(part, (ast.AugAssign, ast.AnnAssign, ast.For)):
            targets.append(part.target)
        elif isinstance(part, ast.Delete):
            targets += part.targets
    return targets


def names_in(node, word):
    return [part for part in ast.walk(node) if isinstance(part, ast.Name) and part.id == word]


def is_called_or_read(node, name):
    """Return whether a name is called or an attribute is read off it in a function."""
    return any(getattr(part, "func", getattr(part, "value", None)) is name for part in ast.walk(node)
               if isinstance(part, (ast.Call, ast.Attribute)))


def attribute_findings(trees):
    """Return where an attribute has a name that it may not have (L26), or that of a method (L18)."""
    found = []
    methods = own_methods(trees)
    for name, tree in trees.items():
        once = set(defined_in(tree)) | {alias.name for node in imported_by(tree) for alias in node.names}
        for node in ast.walk(tree):
            if isinstance(node, ast.Attribute) and not isinstance(node.ctx, ast.Load):
                if node.attr in BARRED_ATTRIBUTES:
                    found.append(("L26", name, node.lineno))
                if node.attr in methods or not isinstance(node.value, ast.Name) or node.value.id in once:
                    found.append(("L18", name, node.lineno))
    return found


def docstrings_in(tree):
    """Return the nodes of the docstrings of a file."""
    bodies = [node.body for node in ast.walk(tree) if isinstance(node, (ast.Module, ast.ClassDef, ast.FunctionDef))]
    return [body[0].value for body in bodies if body and isinstance(body[0], ast.Expr)]


def word_findings(name, tree):
    """Return where a word stands that may not occur in a file, docstrings and comments left out (L17)."""
    found = []
    free = docstrings_in(tree) + [node.func for node in ast.walk(tree) if called(node) == "type"]
    for node in ast.walk(tree):
        words = [getattr(node, field, None) for field in ("id", "attr", "arg", "name", "value")]
        texts = [word for word in words if isinstance(word, str)]
        if node not in free and BARRED_WORDS & set(re.findall(r"\w+", " ".join(texts))):
            found.append(("L17", name, getattr(node, "lineno", 1)))
    return found


def function_findings(name, node):
    """Return where a function breaks a rule (L4, L10)."""
    found = [("L10", name, node.lineno)] if node.end_lineno - node.lineno + 1 > 40 else []
    for part in node.decorator_list:
        setter = isinstance(part, ast.Attribute) and part.attr == "setter"
        if not setter and not (isinstance(part, ast.Name) and part.id in DECORATORS):
            found.append(("L4", name, node.lineno))
    return found


def own_methods(trees):
    return {part.name for tree in trees.values() for node in ast.walk(tree) if isinstance(node, ast.ClassDef)
            for part in node.body if isinstance(part, ast.FunctionDef)}


def node_findings(name, node, methods):
    """Return where a node breaks a rule of its own."""
    line = getattr(node, "lineno", 1)
    found = []
    if isinstance(node, BARRED_NODES):
        found.append(("L6", name, line))
    if isinstance(node, ast.Constant) and isinstance(node.value, (float, complex)):
        found.append(("L7", name, line))
    if isinstance(node, ast.Name) and node.id in vars(builtins) and node.id not in BUILTINS:
        found.append(("L8", name, line))
    if isinstance(node, ast.Compare):
        for operator, side in zip(node.ops, node.comparators):
            same_class = called(node.left) == called(side) == "type"
            if isinstance(operator, (ast.Is, ast.IsNot)) and not isinstance(side, ast.Constant) and not same_class:
                found.append(("L20", name, line))
    if isinstance(node, ast.Call) and isinstance(node.func, ast.Attribute) and node.func.attr not in methods:
        found.append(("L25", name, line))
    if isinstance(node, ast.Constant) and isinstance(node.value, str) and "%" in node.value:
        found.append(("L27", name, line))
    if isinstance(node, ast.For) and isinstance(node.iter, (ast.Set, ast.SetComp)):
        found.append(("L24", name, line))
    return found


def called(node):
    """Return the name of what a call calls, None if the node is no call."""
    if not isinstance(node, ast.Call):
        return None
    return getattr(node.func, "id", getattr(node.func, "attr", None))


def is_iterated(node, parent):
    """Return whether a node stands where it is iterated at once."""
    if isinstance(parent, (ast.For, ast.comprehension)):
        return parent.iter is node
    return called(parent) in ITERATE_AT_ONCE and isinstance(parent.func, ast.Name) and parent.args[0] is node


def place_findings(name, node, parent):
    """Return where a node stands at a place that a rule bars it from."""
    line = getattr(node, "lineno", 1)
    found = []
    if isinstance(node, ast.GeneratorExp):
        # Some places are allowed, but lists do in all of them, also beside a class with __eq__.
        found.append(("L7", name, line))
    if called(node) in VIEWS and not is_iterated(node, parent):
        if (called(parent), called(node)) not in [("reversed", "range"), ("len", "range")]:
            found.append(("L23", name, line))
    if isinstance(node, (ast.Set, ast.SetComp)) or called(node) == "set":
        stored = isinstance(parent, ast.Assign) and isinstance(parent.targets[0], ast.Name)
        if not stored and not isinstance(parent, ast.Compare) and called(parent) not in ("sorted", "len"):
            found.append(("L24", name, line))
    if called(node) == "type" and not isinstance(parent, ast.Compare):
        found.append(("L8", name, line))
    if called(node) == "super" and not isinstance(parent, ast.Attribute):
        found.append(("L5", name, line))
    if isinstance(node, ast.Pow):
        exponent = getattr(parent, "right", getattr(parent, "value", None))
        if not isinstance(exponent, ast.Constant) or not 0 <= exponent.value <= 64:
            found.append(("L27", name, getattr(parent, "lineno", 1)))
    return found


def findings(texts):
    """Return all findings in the files with these texts."""
    trees = {name: ast.parse(text) for name, text in texts.items()}
    found = circle_findings(trees) + attribute_findings(trees)
    methods = METHODS | own_methods(trees)
    for name, tree in trees.items():
        found += text_findings(name, texts[name]) + module_findings(name, tree)
        found += import_findings(name, trees) + name_findings(name, tree) + word_findings(name, tree)
        for node in ast.walk(tree):
            found += node_findings(name, node, methods)
            for part in ast.iter_child_nodes(node):
                found += place_findings(name, part, node)
            if isinstance(node, ast.ClassDef):
                found += class_findings(name, node)
            if isinstance(node, ast.FunctionDef):
                found += function_findings(name, node)
    return found


class LanguageTest(unittest.TestCase):
    def test_files(self):
        for path in FOLDER.iterdir():
            if path.name != "__pycache__":
                with self.subTest(path.name):
                    self.assertRegex(path.name, r"\A(__init__|__main__|[a-z][a-z0-9_]*)\.py\Z")
                    self.assertFalse(path.name.startswith(BARRED_FILES) or path.stem in vars(builtins))
        self.assertIn("__init__.py", sources())
        self.assertLessEqual(len(sources()), 100)

    def test_the_package_breaks_no_rule(self):
        self.assertEqual(findings(sources()), [])

    def test_python_gives_no_warning(self):
        with warnings.catch_warnings():
            warnings.simplefilter("error")
            for name, text in sources().items():
                compile(text, name, "exec")

    def test_each_definition_has_a_docstring_or_is_an_init(self):
        for name, text in sources().items():
            for node in ast.walk(ast.parse(text)):
                if isinstance(node, (ast.Module, ast.ClassDef, ast.FunctionDef)):
                    if getattr(node, "name", "") != "__init__":
                        self.assertIsNotNone(ast.get_docstring(node), (name, getattr(node, "lineno", 1)))

    def test_broken_rules_are_found(self):
        for rule, text in [
                ("L2", "import math\n"), ("L2", "from os import path\npath\n"), ("L3", "X = len('a')\n"),
                ("L4", "def f():\n    @f\n    def g():\n        pass\n"), ("L6", "def f():\n    global X\n"),
                ("L7", "X = 0.5\n"), ("L6", "def f(x):\n    return x / 2\n"), ("L8", "def f(x):\n    eval(x)\n"),
                ("L10", "X = 1" + " " * 120 + "\n"), ("L10", "def f():\n" + "    pass\n" * 40), ("L14", "# \u00e4\n"),
                ("L12", "__X = 1\n"), ("L15", "X = 1\nX = 2\n"), ("L15", "def f(id):\n    pass\n"),
                ("L16", "from b import y\ny\n"), ("L17", "def register():\n    pass\n"),
                ("L20", "def f(x):\n    return x is f\n"), ("L25", "def f(x):\n    x.rotate()\n"),
                ("L27", "X = '%'\n"), ("L7", "def f(x):\n    return any(k for k in x)\n"),
                ("L23", "def f(x):\n    return x.items()\n"), ("L23", "def f(x):\n    return len(x.keys())\n"),
                ("L23", "def f(x):\n    return sorted([1], key=zip(x))\n"),
                ("L24", "def f(x):\n    return set(x)\n"), ("L24", "def f(x):\n    return [k for k in set(x)]\n"),
                ("L24", "def f(x):\n    return list({k for k in x})\n"),
                ("L27", "def f(x):\n    return 2 ** x\n"), ("L27", "X = 2 ** 65\n"),
                ("L8", "def f(x):\n    return type(x)\n"), ("L17", "def f(x):\n    return x.enum\n"),
                ("L17", "X = 'a Flag'\n"), ("L17", "def f(type):\n    pass\n"),
                ("L20", "def f(x, y):\n    return type(x) is y\n"),
                ("L18", "X = []\ndef f():\n    X.n = 1\n"), ("L18", "def f(x):\n    x.y.n = 1\n"),
                ("L26", "def f(x):\n    x.items = 1\n"),
                ("L18", "class A:\n    def n(self):\n        self.n = 1\n"),
                ("L5", "class A:\n    def __hash__(self):\n        return 1\n"),
                ("L5", "class A:\n    @property\n    def n(self):\n        self.k = 1\n        return 2\n"),
                ("L5", "class A:\n    @classmethod\n    def n(cls, x):\n        return f(cls)\n"),
                ("L5", "class A:\n    def n(self):\n        return [super()]\n"),
                ("L28", "class A:\n    def __len__(self):\n        return self.n\n"),
                ("L28", "class A:\n    def __eq__(self, x):\n        y = x\n        return y == 1\n"),
                ("L28", "class A:\n    def __init__(self):\n        return None\n")]:
            with self.subTest(rule, text=text[:40]):
                found = findings({"a.py": text, "b.py": "from a import x\nx\n"})
                self.assertIn(rule, [finding[0] for finding in found if finding[1] == "a.py"])


if __name__ == "__main__":
    unittest.main()
