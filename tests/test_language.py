"""LANGUAGE.md: the rules that can be read off a file with certainty.

A rule with many exceptions is checked only as far as no allowed program is refused.
"""

import ast
import builtins
import keyword
import pathlib
import re
import unittest
import warnings

PACKAGE = pathlib.Path(__file__).resolve().parent.parent / "threerims"

LIBRARY = {
    "heapq": "heappush heappop heapify heapreplace heappushpop",
    "math": "gcd lcm isqrt comb perm factorial",
    "itertools": "product combinations permutations chain accumulate pairwise islice zip_longest",
    "collections": "defaultdict deque",
    "__future__": "annotations",
}
BUILTINS = """
    len range enumerate zip min max sum abs sorted reversed int str bool bytes list tuple dict set frozenset isinstance
    ord repr any all divmod pow getattr hasattr setattr iter next map type property staticmethod classmethod super
    object float
    Exception ValueError TypeError KeyError IndexError LookupError ZeroDivisionError ArithmeticError OverflowError
    RuntimeError NotImplementedError AttributeError StopIteration NotImplemented
""".split()
CAUGHT = "KeyError ZeroDivisionError StopIteration ValueError LookupError IndexError".split()
KEYWORDS = {"sorted": "key reverse", "min": "key default", "max": "key default", "sum": "start", "enumerate": "start",
            "zip": "strict"}
DOUBLE_UNDERSCORES = """
    init eq repr str len enter exit call iter lt le gt ge ne add sub mul floordiv mod pow and or xor lshift rshift
    radd rsub rmul rfloordiv rmod rand ror rxor rlshift rrshift iadd isub imul ifloordiv imod ipow iand ior ixor
    ilshift irshift neg pos invert abs bool contains getitem setitem
""".split()
METHODS = """
    append clear copy count endswith extend find get index insert isalnum isalpha isdigit islower isspace isupper items
    join keys ljust lower lstrip partition pop remove replace reverse rfind rjust rpartition rsplit rstrip setdefault
    split splitlines startswith strip update upper values zfill bit_length title capitalize swapcase casefold center
    expandtabs removeprefix removesuffix rindex isascii isdecimal isnumeric istitle isidentifier isprintable translate
    maketrans encode decode hex from_bytes sort format add discard from_iterable appendleft popleft extendleft rotate
""".split()
NEVER = "register mro elements open input law version_info with_traceback add_note".split()
NEVER_BOUND = """
    attrgetter breakpoint builtins compile copyright credits delattr dir eval exec exit gc getattr globals hasattr help
    id importlib license locals methodcaller os quit setattr super type vars
""".split()
NEVER_WRITTEN = """
    typing typing_extensions enum Enum IntEnum StrEnum Flag IntFlag Generic Protocol ABC ABCMeta namedtuple NamedTuple
    TypedDict TYPE_CHECKING abstractmethod
""".split()
BARRED_FILES = r"^(law_.*|test|tests|testing|test_.*|site|conftest|sitecustomize|usercustomize)\.py$"
FUNCTIONS = (ast.FunctionDef, ast.Lambda)


def is_builtin(name):
    return name != "_" and hasattr(builtins, name)


def is_docstring(node):
    return isinstance(node, ast.Expr) and isinstance(node.value, ast.Constant) and isinstance(node.value.value, str)


def docstrings(tree):
    """Return the nodes of the strings that are docstrings."""
    found = []
    for node in ast.walk(tree):
        if isinstance(node, (ast.Module, ast.ClassDef, ast.FunctionDef)) and node.body and is_docstring(node.body[0]):
            found.append(node.body[0].value)
    return found


def parameters(function):
    given = function.args
    plain = given.posonlyargs + given.args + given.kwonlyargs
    return [each.arg for each in plain + [given.vararg, given.kwarg] if each is not None]


def bound_names(tree):
    """Return pairs (name, node) for all names that are bound, except by classes' bodies and imports."""
    found = []
    for node in ast.walk(tree):
        if isinstance(node, ast.Name) and isinstance(node.ctx, ast.Store):
            found.append((node.id, node))
        elif isinstance(node, FUNCTIONS):
            found.extend((name, node) for name in parameters(node))
        elif isinstance(node, ast.ExceptHandler) and node.name:
            found.append((node.name, node))
        elif isinstance(node, (ast.MatchAs, ast.MatchStar)) and node.name:
            found.append((node.name, node))
    return found


def methods_of(tree):
    """Return the functions that stand in the body of a class."""
    classes = [node for node in ast.walk(tree) if isinstance(node, ast.ClassDef)]
    return [item for each in classes for item in each.body if isinstance(item, ast.FunctionDef)]


def check_text(name, text):
    """L10, L14: the size of a file and its characters."""
    lines = text.split("\n")
    found = []
    if len(text.splitlines()) > 399:
        found.append("L10: too many lines")
    found.extend(f"L10: line {at} is too long" for at, line in enumerate(lines, 1) if len(line) > 120)
    found.extend(f"L14: character in line {at}" for at, line in enumerate(lines, 1) if re.search("[^ -~]", line))
    return found


def check_warnings(name, text):
    """L27: no line for which Python itself gives a warning."""
    with warnings.catch_warnings(record=True) as caught:
        warnings.simplefilter("always")
        compile(text, name, "exec")
    return [f"L27: {each.message}" for each in caught]


def check_import(name, node):
    """L2, L16: what an import may name."""
    if isinstance(node, ast.Import):
        allowed = name == "__main__.py" and [(each.name, each.asname) for each in node.names] == [("sys", None)]
        return [] if allowed else [f"L2: import in line {node.lineno}"]
    module = node.module or ""
    names = [each.name for each in node.names]
    if node.level or "*" in names or module.endswith("__main__"):
        return [f"L2: import in line {node.lineno}"]
    if module.split(".")[0] == "threerims":
        return []
    if module not in LIBRARY or not set(names) <= set(LIBRARY[module].split()):
        return [f"L2: import in line {node.lineno}"]
    return [f"L2: as in line {node.lineno}" for each in node.names if each.asname]


def check_imports(name, tree):
    """L2: imports stand at the top."""
    imports = (ast.Import, ast.ImportFrom)
    body = [node for node in tree.body if not is_docstring(node)]
    top = 0
    while top < len(body) and isinstance(body[top], imports):
        top += 1
    found = []
    for node in ast.walk(tree):
        if isinstance(node, imports):
            found.extend(check_import(name, node))
            if node not in body[:top]:
                found.append(f"L2: import in line {node.lineno} is not at the top")
    return found


def check_module_level(name, tree):
    """L3, L15: what stands outside of functions and classes; a name is bound once."""
    found, names = [], []
    for node in tree.body:
        if isinstance(node, (ast.FunctionDef, ast.ClassDef)):
            names.append(node.name)
        elif isinstance(node, (ast.Import, ast.ImportFrom)):
            names.extend(each.asname or each.name for each in node.names)
        elif isinstance(node, ast.Assign) and len(node.targets) == 1 and isinstance(node.targets[0], ast.Name):
            names.append(node.targets[0].id)
        elif isinstance(node, ast.AnnAssign) and isinstance(node.target, ast.Name) and node.value is not None:
            names.append(node.target.id)
        elif not is_docstring(node) and not (name == "__main__.py" and isinstance(node, ast.If)):
            found.append(f"L3: line {node.lineno}")
        if isinstance(node, (ast.Assign, ast.AnnAssign)):
            inner = (ast.Call, ast.Lambda, ast.ListComp, ast.DictComp, ast.SetComp, ast.GeneratorExp, ast.Set)
            found.extend(f"L3: value in line {node.lineno}" for part in ast.walk(node.value) if isinstance(part, inner))
    found.extend(f"L15: {each} is bound twice" for each in set(names) if names.count(each) > 1)
    return found


def check_functions(name, tree):
    """L4, L5, L10, L28: functions, methods and decorators."""
    found = []
    own = methods_of(tree)
    for node in ast.walk(tree):
        if not isinstance(node, (ast.FunctionDef, ast.ClassDef)):
            continue
        for each in node.decorator_list:
            text = ast.unparse(each)
            plain = text in ("property", "staticmethod", "classmethod") or text.endswith(".setter")
            if node not in own or not plain:
                found.append(f"L4: decorator in line {each.lineno}")
        if isinstance(node, ast.FunctionDef):
            if node.end_lineno - node.lineno + 1 > 40:
                found.append(f"L10: {node.name} is too long")
            if node.name.startswith("__") and (node not in own or node.name.strip("_") not in DOUBLE_UNDERSCORES):
                found.append(f"L5: {node.name}")
            if node.name == "__init__" and any(isinstance(each, ast.Return) and each.value for each in ast.walk(node)):
                found.append("L28: __init__ returns something")
    return found


def check_statements(name, tree):
    """L6, L7, L19: statements and values that are never allowed."""
    barred = (ast.AsyncFunctionDef, ast.AsyncFor, ast.AsyncWith, ast.Await, ast.TryStar, ast.Div, ast.MatMult)
    found = []
    for node in ast.walk(tree):
        if isinstance(node, barred):
            found.append(f"L6, L7: {node.__class__.__name__}")
        elif isinstance(node, ast.AugAssign) and isinstance(node.op, (ast.Div, ast.MatMult)):
            found.append(f"L7: line {node.lineno}")
        elif isinstance(node, ast.Constant) and isinstance(node.value, (float, complex)):
            found.append(f"L7: number in line {node.lineno}")
        elif isinstance(node, ast.Constant) and isinstance(node.value, int) and abs(node.value) >= 10 ** 900:
            found.append(f"L27: number in line {node.lineno}")
        elif isinstance(node, ast.Raise) and node.exc is not None:
            made = node.exc.func if isinstance(node.exc, ast.Call) else node.exc
            if not isinstance(made, ast.Name) or not made.id[0].isupper():
                found.append(f"L19: raise in line {node.lineno}")
        elif isinstance(node, ast.ExceptHandler):
            found.extend(check_handler(node))
    return found


def check_handler(node):
    """L19: a handler names own errors, or those of Python's errors that may be caught."""
    if node.type is None:
        return [f"L19: handler in line {node.lineno}"]
    named = node.type.elts if isinstance(node.type, ast.Tuple) else [node.type]
    found = []
    for each in named:
        if not isinstance(each, ast.Name) or (is_builtin(each.id) and each.id not in CAUGHT):
            found.append(f"L19: handler in line {node.lineno}")
    return found or ([] if named else [f"L19: handler in line {node.lineno}"])


def check_builtins(name, tree):
    """L8, L22: the builtins that are used, and their keywords."""
    allowed = BUILTINS + (["print", "__name__"] if name == "__main__.py" else [])
    known = {each for each, _ in bound_names(tree)}
    found = []
    for node in ast.walk(tree):
        if isinstance(node, ast.Name) and is_builtin(node.id) and node.id not in allowed:
            found.append(f"L8: {node.id} in line {node.lineno}")
        elif isinstance(node, ast.Call) and isinstance(node.func, ast.Name) and node.func.id in BUILTINS:
            given = {each.arg for each in node.keywords}
            if node.func.id not in known and not given <= set(KEYWORDS.get(node.func.id, "").split()):
                found.append(f"L22: keyword in line {node.lineno}")
    return found


def check_bound_names(name, tree):
    """L12, L15, L17: the names of variables, parameters, functions and classes."""
    own = methods_of(tree)
    taken = [node.name for node in tree.body if isinstance(node, ast.ClassDef)]
    for node in tree.body:
        if isinstance(node, ast.ImportFrom):
            taken.extend(each.asname or each.name for each in node.names)
    found = []
    names = bound_names(tree)
    found.extend(f"L15: {each} in line {node.lineno}" for each, node in names if each in taken)
    for node in ast.walk(tree):
        if isinstance(node, (ast.FunctionDef, ast.ClassDef)) and node not in own:
            names.append((node.name, node))
    for each, node in names:
        if is_builtin(each) or each in NEVER or each in NEVER_BOUND:
            found.append(f"L15, L17: {each} in line {node.lineno}")
        plain = re.fullmatch("_|_?[A-Za-z][A-Za-z0-9_]*", each) and not keyword.iskeyword(each)
        if not plain and each not in ("__all__", "__version__", "__slots__"):
            found.append(f"L12: {each} in line {node.lineno}")
    return found


def check_attributes(name, tree):
    """L17, L26: the names of attributes and methods."""
    found = []
    for node in ast.walk(tree):
        if isinstance(node, ast.Attribute):
            if node.attr in NEVER or node.attr in ("args", "format_map"):
                found.append(f"L17: {node.attr} in line {node.lineno}")
            if node.attr.startswith("__") and node.attr not in ("__init__", "__class__", "__name__"):
                found.append(f"L8: {node.attr} in line {node.lineno}")
    return found


def check_words(name, tree):
    """L17, L27: words in strings, and in names."""
    skipped = docstrings(tree)
    barred = re.compile(r"\b(" + "|".join(NEVER_WRITTEN) + r")\b|dataclass|overload|contextmanager")
    found = []
    for node in ast.walk(tree):
        if isinstance(node, ast.Constant) and isinstance(node.value, str) and node not in skipped:
            if barred.search(node.value):
                found.append(f"L17: string in line {node.lineno}")
            if re.fullmatch("(?s)__.*__", node.value) and node.value != "__main__":
                found.append(f"L27: string in line {node.lineno}")
        for field in ("id", "attr", "name", "arg", "module"):
            word = getattr(node, field, None)
            if isinstance(word, str) and barred.search(word):
                found.append(f"L17: {word}")
    return found


def check_sets(name, tree):
    """L13: a set of three or more integers is only tested with "in" on the spot."""
    tested = []
    for node in ast.walk(tree):
        if isinstance(node, ast.Compare):
            tested.extend(part for sign, part in zip(node.ops, node.comparators) if isinstance(sign, (ast.In, ast.NotIn)))
    found = []
    for node in ast.walk(tree):
        if isinstance(node, ast.Set) and node not in tested:
            numbers = [part for part in node.elts if isinstance(part, ast.Constant) and isinstance(part.value, int)]
            if len(numbers) >= 3:
                found.append(f"L13: set in line {node.lineno}")
    return found


def check_equality(name, tree):
    """L7, L25: what the package must not contain because one of its classes has an __eq__."""
    found = []
    for node in ast.walk(tree):
        if not isinstance(node, ast.Call):
            continue
        called = node.func.id if isinstance(node.func, ast.Name) else ""
        if called in ("any", "all", "min", "max", "sum", "sorted"):
            found.extend(f"L7: {called} in line {node.lineno}" for each in node.args if isinstance(each, ast.GeneratorExp))
        if isinstance(node.func, ast.Attribute) and node.func.attr == "sort":
            found.append(f"L25: sort in line {node.lineno}")
    return found


def check_powers(name, tree):
    """L27: what an exponent may be."""
    found = []
    for node in ast.walk(tree):
        if isinstance(node, ast.BinOp) and isinstance(node.op, ast.Pow):
            right = node.right
            literal = isinstance(right, ast.Constant) and isinstance(right.value, int) and 0 <= right.value <= 64
            rest = isinstance(right, ast.BinOp) and isinstance(right.op, ast.Mod)
            if not literal and not rest and not isinstance(right, ast.Name):
                found.append(f"L27: exponent in line {node.lineno}")
    return found


TREE_CHECKS = (check_imports, check_module_level, check_functions, check_statements, check_builtins,
               check_bound_names, check_attributes, check_words, check_sets, check_equality, check_powers)


def parse(text):
    # The warnings are counted by check_warnings, and are errors for the parser if the tests run with -W error.
    with warnings.catch_warnings():
        warnings.simplefilter("ignore")
        return ast.parse(text)


def complaints(name, text):
    """Return what is wrong with a file of the package, as a list of texts."""
    found = check_text(name, text) + check_warnings(name, text)
    for check in TREE_CHECKS:
        found.extend(check(name, parse(text)))
    return found


def package_files():
    return sorted(path for path in PACKAGE.rglob("*") if path.is_file() and "__pycache__" not in path.parts)


def module_name(path):
    parts = ("threerims",) + path.relative_to(PACKAGE).with_suffix("").parts
    return ".".join(part for part in parts if part != "__init__")


def trees():
    return {module_name(path): parse(path.read_text(encoding="utf-8")) for path in package_files()}


class Files(unittest.TestCase):

    def test_folder_holds_plain_files_only(self):
        self.assertTrue((PACKAGE / "__init__.py").is_file())
        self.assertLessEqual(len(package_files()), 100)
        for path in package_files():
            self.assertRegex(path.name, r"^([a-z0-9_]+)\.py$")
            self.assertNotRegex(path.name, BARRED_FILES)
            self.assertFalse(path.is_symlink())
            self.assertTrue((path.parent / "__init__.py").is_file())

    def test_every_file_keeps_to_the_rules(self):
        for path in package_files():
            with self.subTest(path.name):
                self.assertEqual(complaints(path.name, path.read_bytes().decode("utf-8")), [])

    def test_called_methods_are_allowed(self):
        known = set(METHODS) | {"__init__"}
        for tree in trees().values():
            known.update(each.name for each in methods_of(tree))
            known.update(node.attr for node in ast.walk(tree)
                         if isinstance(node, ast.Attribute) and isinstance(node.ctx, ast.Store))
        for name, tree in trees().items():
            if name == "threerims.__main__":
                known = known | {"read", "readline", "readlines", "write", "flush", "exit"}
            for node in ast.walk(tree):
                if isinstance(node, ast.Call) and isinstance(node.func, ast.Attribute):
                    self.assertIn(node.func.attr, known, f"L25: {name}, line {node.lineno}")

    def test_imports_name_the_file_that_defines_the_name(self):
        found = trees()
        for name, tree in found.items():
            for node in tree.body:
                if isinstance(node, ast.ImportFrom) and node.module.startswith("threerims"):
                    self.assertIn(node.module, found, f"L16: {name}")
                    defined = [each for each, _ in bound_names(found[node.module])]
                    defined += [each.name for each in found[node.module].body if hasattr(each, "name")]
                    for each in node.names:
                        self.assertIn(each.name, defined, f"L16: {name}")

    def test_no_two_files_import_from_each_other(self):
        left = {
            name: {node.module for node in tree.body if isinstance(node, ast.ImportFrom)} & set(trees())
            for name, tree in trees().items()
        }
        while left:
            free = [name for name in left if not left[name] & set(left)]
            self.assertTrue(free, f"L16: {sorted(left)} import from each other")
            for name in free:
                del left[name]


class Checks(unittest.TestCase):
    """The checks themselves: each of these files breaks a rule."""

    BROKEN = (
        "import random\n",
        "import threerims.errors as errors\n",
        "from time import time\n",
        "from itertools import count\n",
        "from .errors import InvalidSize\n",
        "from threerims.errors import *\n",
        "X = 1\nfrom math import gcd\n",
        "def f():\n    from math import gcd\n    return gcd(1, 2)\n",
        "X = 1\nX = 2\n",
        "X, Y = 1, 2\n",
        "X = dict()\n",
        "print(1)\n",
        "for k in range(3):\n    pass\n",
        "@staticmethod\ndef f():\n    return 1\n",
        "def f(x):\n    return x / 2\n",
        "def f(x):\n    x /= 2\n    return x\n",
        "def f(x):\n    return x + 0.5\n",
        "def f(x):\n    return open(x)\n",
        "def f(x):\n    return hash(x)\n",
        "def f(x):\n    return chr(x)\n",
        "def f(x):\n    return round(x)\n",
        "def f(x):\n    print(x)\n",
        "def f(x):\n    return sorted(x, cmp=None)\n",
        "def f(list):\n    return list\n",
        "def f():\n    max = 1\n    return max\n",
        "def sum(x):\n    return x\n",
        "from math import gcd\n\n\ndef f(gcd):\n    return gcd\n",
        "def __f(x):\n    return x\n",
        "def f(x):\n    return x.__dict__\n",
        "def f(x):\n    return x.args\n",
        "class A:\n    def __hash__(self):\n        return 1\n",
        "class A:\n    def __init__(self):\n        return None or 1\n",
        "def f(x):\n    try:\n        return x[0]\n    except Exception:\n        return 0\n",
        "def f(x):\n    try:\n        return x[0]\n    except:\n        return 0\n",
        "def f(x):\n    try:\n        return x[0]\n    except (KeyError, TypeError):\n        return 0\n",
        "def f(x):\n    raise x\n",
        "def f(x):\n    raise x.wrong()\n",
        "async def f(x):\n    return x\n",
        "def f(x):\n    return 'an Enum'\n",
        "def f(x):\n    return '__odd__'\n",
        "def f(x):\n    return x is 1\n",
        "def f(x):\n    return 1if x else 2\n",
        "def f():\n    return sorted({1, 2, 3})\n",
        "def f(x):\n    return 'caf\u00e9'\n",
        "def f(x):\n\treturn x\n",
        "def f(x):\n" + "    x = 1\n" * 40,
        "X = 1  # " + "x" * 120 + "\n",
        "# x\n" * 400,
        "def f(x):\n    return type('A', (), {})\n\n\ndef type(x):\n    return x\n",
        "def f(x):\n    return all(k > 0 for k in x)\n",
        "def f(x):\n    return sorted((k for k in x), reverse=True)\n",
        "def f(x):\n    x.sort()\n    return x\n",
        "def f(x):\n    return 2 ** len(x)\n",
        "def f(x):\n    return x ** 65\n",
    )

    KEPT = (
        '"""Text: type, enum, 1.5."""\n',
        "from threerims.errors import InvalidSize\nfrom math import gcd\n\nX = (1, -2)\nY = {'a': [1]}\n",
        "def f(x, *, y=None):\n    return [k for k in x if k in {1, 2, 3}] + sorted(x, key=len, reverse=True)\n",
        "def f(x):\n    try:\n        return x[0]\n    except (KeyError, IndexError):\n        raise ValueError('x')\n",
        "class A:\n    @property\n    def many(self):\n        return 1\n\n    def hash(self):\n        return 2\n",
        "def f(x):\n    return all([k > 0 for k in x]) and list(k ** 2 for k in x)\n",
    )

    def test_broken_files_are_found(self):
        for text in self.BROKEN:
            with self.subTest(text[:80]):
                self.assertNotEqual(complaints("file.py", text), [])

    def test_other_files_pass(self):
        for text in self.KEPT:
            with self.subTest(text[:80]):
                self.assertEqual(complaints("file.py", text), [])
