"""The form of the package's files: those rules of LANGUAGE.md that can be read off the syntax tree."""

import ast
import builtins
import pathlib
import re
import unittest

PACKAGE = pathlib.Path(__file__).resolve().parent.parent / "fourvoices"

OWN_NAMES = set(
    "len range enumerate zip min max sum abs sorted reversed int str bool list tuple dict set frozenset isinstance ord "
    "repr any all divmod Exception ValueError TypeError KeyError IndexError LookupError ZeroDivisionError "
    "ArithmeticError OverflowError RuntimeError NotImplementedError AttributeError StopIteration".split())
OWN_METHODS = set(
    "append clear copy count endswith extend find get index insert isalnum isalpha isdigit islower isspace isupper "
    "items join keys ljust lower lstrip partition pop remove replace reverse rfind rjust rpartition rsplit rstrip "
    "setdefault split splitlines startswith strip update upper values zfill bit_length".split())
DOUBLE_METHODS = {"__init__", "__eq__", "__repr__", "__str__", "__len__"}
DOUBLE_NAMES = DOUBLE_METHODS | {"__all__", "__version__", "__name__"}
UNUSED = set("register mro elements open input version_info with_traceback add_note format format_map".split())
NO_WORDS = re.compile(
    r"\b(type|typing|typing_extensions|enum|Enum|IntEnum|StrEnum|Flag|IntFlag|Generic|Protocol|ABC|ABCMeta|namedtuple|"
    r"NamedTuple|TypedDict|TYPE_CHECKING|abstractmethod)\b|dataclass|overload|contextmanager")
NODES = tuple(getattr(ast, name) for name in (
    "Module ImportFrom alias FunctionDef Lambda arguments arg ClassDef Assign AugAssign If While For Return Break "
    "Continue Pass Raise Try ExceptHandler Expr BoolOp BinOp UnaryOp IfExp Dict Set ListComp comprehension Compare Call "
    "keyword JoinedStr FormattedValue Constant Attribute Subscript Slice Name List Tuple expr_context boolop operator "
    "unaryop cmpop").split())


def docstring_of(tree):
    return tree.body[0] if tree.body and ast.get_docstring(tree) is not None else None


def bound_names(tree):
    for node in ast.walk(tree):
        if isinstance(node, (ast.FunctionDef, ast.ClassDef)):
            yield node, node.name
        elif isinstance(node, ast.arg):
            yield node, node.arg
        elif isinstance(node, ast.Name) and isinstance(node.ctx, ast.Store):
            yield node, node.id
        elif isinstance(node, ast.alias):
            yield node, node.asname or node.name
        elif isinstance(node, ast.ExceptHandler) and node.name:
            yield node, node.name
        elif isinstance(node, ast.Attribute) and isinstance(node.ctx, ast.Store):
            yield node, node.attr


def text_faults(text):
    rows = text.split("\n")
    if re.search(r"[^ -~\n]", text):
        yield "L14 sign"
    if len(rows) > 401:
        yield "L10 file"
    for number, row in enumerate(rows, 1):
        if len(row) > 120:
            yield f"L10 row {number}"
        if NO_WORDS.search(row):
            yield f"L17 row {number}"


def statement_faults(node, docstring):
    if not isinstance(node, NODES) or isinstance(node, (ast.Div, ast.MatMult)):
        yield "L6 L7 form"
    if isinstance(node, ast.Assign) and len(node.targets) != 1:
        yield "L6 target"
    if isinstance(node, (ast.While, ast.For)) and node.orelse:
        yield "L6 else"
    if isinstance(node, ast.Try) and node.finalbody:
        yield "L6 finally"
    if isinstance(node, ast.ExceptHandler) and (node.type is None or ast.unparse(node.type) in ("Exception", "TypeError")):
        yield "L19 handler"
    if isinstance(node, ast.Expr) and node is not docstring and not isinstance(node.value, ast.Call):
        yield "L6 expression"
    if isinstance(node, ast.FunctionDef):
        spec = node.args
        if node.decorator_list or spec.vararg or spec.kwarg or spec.kwonlyargs or spec.posonlyargs:
            yield "L4 function"
        if node.end_lineno - node.lineno + 1 > 40:
            yield "L10 function"
    if isinstance(node, ast.ClassDef):
        if node.decorator_list or node.keywords or len(node.bases) > 1:
            yield "L5 class"
        if any(not isinstance(row, (ast.FunctionDef, ast.Pass)) for row in node.body):
            yield "L5 body"


def expression_faults(node):
    if isinstance(node, ast.Constant):
        if not (node.value is None or isinstance(node.value, (bool, int, str))):
            yield "L7 value"
        if isinstance(node.value, str) and "%" in node.value:
            yield "L27 text"
    if isinstance(node, ast.ListComp) and (len(node.generators) > 1 or len(node.generators[0].ifs) > 1):
        yield "L7 comprehension"
    if isinstance(node, ast.FormattedValue):
        if not isinstance(node.value, ast.Name) or node.format_spec or node.conversion not in (-1, ord("r")):
            yield "L7 f-string"
    if isinstance(node, ast.Compare):
        sides = [node.left] + node.comparators
        for turn, sign in enumerate(node.ops):
            if isinstance(sign, (ast.Is, ast.IsNot)):
                beside = sides[turn:turn + 2]
                if not any(isinstance(side, ast.Constant) and side.value in (None, True, False) for side in beside):
                    yield "L20 is"
    if isinstance(node, ast.BinOp) and isinstance(node.op, ast.Pow):
        if not isinstance(node.right, ast.Constant) or not 0 <= node.right.value <= 64:
            yield "L27 power"


def name_faults(tree, known):
    bound = {name for node, name in bound_names(tree)}
    for node, name in bound_names(tree):
        if name.startswith("_") and name not in DOUBLE_NAMES:
            yield node, "L12 name"
        if name in dir(builtins) and not isinstance(node, (ast.FunctionDef, ast.Attribute)):
            yield node, "L15 name"
        if name in UNUSED:
            yield node, "L17 name"
    for node in ast.walk(tree):
        if isinstance(node, ast.Name) and isinstance(node.ctx, ast.Load) and node.id not in bound | OWN_NAMES:
            yield node, "L8 name"
        if isinstance(node, ast.Attribute) and node.attr not in known | OWN_METHODS | DOUBLE_METHODS:
            yield node, "L25 attribute"


def import_faults(tree, defined):
    for node in tree.body:
        if isinstance(node, ast.ImportFrom) and node.module != "__future__":
            if node.level or node.module not in defined:
                yield node, "L2 import"
            elif any(name.name not in defined[node.module] for name in node.names):
                yield node, "L16 import"
    for node in ast.walk(tree):
        if isinstance(node, ast.ImportFrom) and node not in tree.body:
            yield node, "L2 place"


def top_names(tree):
    for node in tree.body:
        if isinstance(node, (ast.FunctionDef, ast.ClassDef)):
            yield node.name
        elif isinstance(node, ast.Assign):
            yield ast.unparse(node.targets[0])


def top_faults(tree, docstring):
    kinds = (ast.ImportFrom, ast.FunctionDef, ast.ClassDef, ast.Assign)
    for node in tree.body:
        if node is not docstring and not isinstance(node, kinds):
            yield node, "L3 top"
    names = list(top_names(tree))
    if len(names) != len(set(names)):
        yield tree, "L15 twice"


def faults(text, known=frozenset(), defined=None):
    told = list(text_faults(text))
    tree = ast.parse(text)
    docstring = docstring_of(tree)
    for node in ast.walk(tree):
        for rule in list(statement_faults(node, docstring)) + list(expression_faults(node)):
            told.append(f"{rule} {getattr(node, 'lineno', 0)}")
    found = list(name_faults(tree, known | {name for node, name in bound_names(tree)}))
    found += list(top_faults(tree, docstring)) + list(import_faults(tree, defined or {}))
    classes = {name for name in known | {name for node, name in bound_names(tree)} if name[0].isupper() and not name.isupper()}
    found += list(walk_faults(tree)) + list(use_faults(tree, classes)) + list(top_value_faults(tree))
    found += list(own_name_faults(tree))
    return told + [f"{rule} {getattr(node, 'lineno', 0)}" for node, rule in found]


def parents_of(tree):
    return {child: node for node in ast.walk(tree) for child in ast.iter_child_nodes(node)}


def called(node):
    return node.func.id if isinstance(node, ast.Call) and isinstance(node.func, ast.Name) else None


def is_walk(node):
    if isinstance(node, ast.Call) and isinstance(node.func, ast.Attribute):
        return node.func.attr in ("items", "keys", "values")
    return called(node) in ("zip", "enumerate", "reversed", "range")


def walked_at_once(node, parent):
    if isinstance(parent, (ast.For, ast.comprehension)):
        return parent.iter is node
    if isinstance(parent, ast.Call) and isinstance(parent.func, ast.Attribute):
        return parent.func.attr == "join" and isinstance(parent.func.value, ast.Constant)
    if called(parent) in ("min", "max"):
        return parent.args == [node]
    firsts = ("list", "tuple", "dict", "sorted", "sum", "any", "all", "enumerate", "zip")
    return called(parent) in firsts and parent.args[0] is node


def set_stands_well(node, parent):
    if isinstance(parent, ast.Compare):
        return all(isinstance(sign, (ast.In, ast.NotIn, ast.Eq, ast.NotEq)) for sign in parent.ops)
    return called(parent) in ("sorted", "len") and not parent.keywords or isinstance(parent, ast.BinOp)


CHANGES = set("append clear extend insert pop remove reverse setdefault update".split())


def changed_names(node):
    for inner in ast.walk(node):
        if isinstance(inner, ast.Call) and isinstance(inner.func, ast.Attribute) and inner.func.attr in CHANGES:
            yield ast.unparse(inner.func.value)
        if isinstance(inner, ast.Subscript) and isinstance(inner.ctx, ast.Store):
            yield ast.unparse(inner.value)


def walk_faults(tree):
    parents = parents_of(tree)
    for node in ast.walk(tree):
        if is_walk(node) and not walked_at_once(node, parents[node]):
            yield node, "L23 walk"
        if (isinstance(node, ast.Set) or called(node) in ("set", "frozenset")) and not set_stands_well(node, parents[node]):
            yield node, "L24 set"
        if isinstance(node, ast.For):
            walked = node.iter
            if is_walk(walked) or called(walked) == "list":
                own = walked.func.value if isinstance(walked.func, ast.Attribute) else None
                walked_names = [] if called(walked) == "list" else [ast.unparse(x) for x in walked.args + [own] if x]
            else:
                walked_names = [ast.unparse(walked)]
            if any(name in walked_names for row in node.body for name in changed_names(row)):
                yield node, "L23 changed"


KEYWORDS = {"sorted": ("key", "reverse"), "min": ("key", "default"), "max": ("key", "default"), "sum": ("start",),
            "enumerate": ("start",), "zip": ("strict",)}


def use_faults(tree, classes):
    parents = parents_of(tree)
    for node in ast.walk(tree):
        parent = parents.get(node)
        if isinstance(node, ast.Call) and node.keywords:
            name = called(node)
            if name in classes or isinstance(node.func, ast.Attribute) and node.func.attr in OWN_METHODS:
                yield node, "L22 keyword"
            if name in OWN_NAMES and any(word.arg not in KEYWORDS.get(name, ()) for word in node.keywords):
                yield node, "L22 keyword"
        if isinstance(node, ast.Name) and isinstance(node.ctx, ast.Load) and node.id in classes:
            beside = isinstance(parent, ast.Call) and (parent.func is node or called(parent) == "isinstance")
            init = isinstance(parent, ast.Attribute) and parent.attr == "__init__"
            if not (beside or init or isinstance(parent, (ast.ClassDef, ast.ExceptHandler, ast.Raise))):
                yield node, "L18 class"
        if isinstance(node, ast.Attribute) and isinstance(node.ctx, ast.Load) and node.attr in OWN_METHODS:
            if not (isinstance(parent, ast.Call) and parent.func is node):
                yield node, "L25 kept"
        if isinstance(node, ast.Name) and node.id in OWN_NAMES and not node.id[0].isupper():
            if not (isinstance(parent, ast.Call) and (parent.func is node or called(parent) == "isinstance")):
                if not isinstance(parent, (ast.keyword, ast.Tuple)):
                    yield node, "L22 kept"
        if isinstance(node, ast.Raise) and not isinstance(node.exc, ast.Call):
            yield node, "L19 raise"
        if isinstance(node, ast.arg) and node.annotation or isinstance(node, ast.FunctionDef) and node.returns:
            yield node, "L21 annotation"


def top_value_faults(tree):
    """L15: a list or dict of the file's top is only read, and no local bears the name of an import or a class."""
    kept = [ast.unparse(node.targets[0]) for node in tree.body
            if isinstance(node, ast.Assign) and isinstance(node.value, (ast.List, ast.Dict))]
    taken = {name.asname or name.name for node in tree.body if isinstance(node, ast.ImportFrom) for name in node.names}
    taken |= {node.name for node in tree.body if isinstance(node, ast.ClassDef)}
    parents = parents_of(tree)
    for node in ast.walk(tree):
        if isinstance(node, ast.Name) and isinstance(node.ctx, ast.Load) and node.id in kept:
            parent = parents[node]
            read = isinstance(parent, (ast.Subscript, ast.For, ast.comprehension, ast.Compare))
            read = read or isinstance(parent, ast.Attribute) and parent.attr in ("get", "items", "keys", "values")
            if not (read or called(parent) in ("len", "list", "dict", "sorted")):
                yield node, "L15 handed on"
        if isinstance(node, ast.Subscript) and isinstance(node.ctx, ast.Store) and ast.unparse(node.value) in kept:
            yield node, "L15 changed"
        if isinstance(node, ast.arg) and node.arg in taken:
            yield node, "L15 taken"
        if isinstance(node, ast.Name) and isinstance(node.ctx, ast.Store) and node.id in taken:
            yield node, "L15 taken"


PYTHONS_OWN = {name for kind in (str, int, list, dict, set, bytes, tuple, float) for name in dir(kind)} | {"args"}
FREE_VALUES = set("count index title find get join lower upper split strip copy add".split())
FREE_METHODS = OWN_METHODS | {"add", "discard"} | DOUBLE_METHODS


def own_name_faults(tree):
    for node in ast.walk(tree):
        if isinstance(node, ast.Attribute) and isinstance(node.ctx, ast.Store):
            if node.attr in PYTHONS_OWN - FREE_VALUES:
                yield node, "L26 value"
        if isinstance(node, ast.ClassDef):
            names = [row.name for row in node.body if isinstance(row, ast.FunctionDef)]
            if set(names) & (PYTHONS_OWN - FREE_METHODS):
                yield node, "L26 method"
            if len(names) != len(set(names)):
                yield node, "L18 twice"


def drawn_from(tree):
    return [node.module for node in tree.body if isinstance(node, ast.ImportFrom) and node.module != "__future__"]


class PackageFiles(unittest.TestCase):
    def setUp(self):
        self.paths = sorted(path for path in PACKAGE.iterdir() if path.name != "__pycache__")
        self.texts = {f"fourvoices.{path.stem}": path.read_bytes().decode("utf-8") for path in self.paths}
        self.trees = {module: ast.parse(text) for module, text in self.texts.items()}

    def test_folder_holds_plain_files_alone(self):
        self.assertIn("__init__.py", [path.name for path in self.paths])
        for path in self.paths:
            self.assertTrue(path.is_file())
            self.assertRegex(path.name, r"^([a-z][a-z0-9_]*|__init__)\.py$")
            self.assertNotRegex(path.stem, r"^(tests?|testing|test_.*|site|conftest|sitecustomize|usercustomize)$")
            self.assertNotIn(path.stem, dir(builtins))

    def test_files_keep_to_the_language(self):
        known = {name for tree in self.trees.values() for node, name in bound_names(tree)}
        defined = {module: set(top_names(tree)) for module, tree in self.trees.items()}
        for module, text in self.texts.items():
            with self.subTest(module=module):
                self.assertEqual(faults(text, known, defined), [])

    def test_no_two_files_draw_from_one_another(self):
        left = {module: drawn_from(tree) for module, tree in self.trees.items()}
        while left:
            free = [module for module, drawn in left.items() if not any(other in left for other in drawn)]
            self.assertNotEqual(free, [], sorted(left))
            left = {module: drawn for module, drawn in left.items() if module not in free}

    def test_no_name_is_both_a_method_and_a_value(self):
        methods, values = set(), set()
        for tree in self.trees.values():
            for node in ast.walk(tree):
                if isinstance(node, ast.ClassDef):
                    methods |= {row.name for row in node.body if isinstance(row, ast.FunctionDef)}
                if isinstance(node, ast.Attribute) and isinstance(node.ctx, ast.Store):
                    values.add(node.attr)
        self.assertEqual(methods & values, set())


class Reader(unittest.TestCase):
    """The reader of the form itself: what it has to see."""

    def test_plain_code_has_no_fault(self):
        plain = (
            '"""A file."""\n\nMOST = 3\n\n\ndef twice(xs):\n    return [x + x for x in xs if x is not None]\n',
            "def f(x):\n    return sorted(set(x)) + list(reversed(x)) + [min(x, default=None)]\n",
            "def f(x, y):\n    for k, z in enumerate(x):\n        y[k] = z\n        y.append(z)\n",
            "def g(x):\n    return x\n\n\nXS = {'a': g}\n\n\ndef f(x):\n    return XS[x](1) if x in XS else None\n",
            "class Ab:\n    def __init__(self, told):\n        self.told = told\n\n\n"
            "class Cd(Ab):\n    def __init__(self):\n        Ab.__init__(self, 1)\n",
            "def f(x):\n    for y in list(x):\n        x.remove(y)\n",
        )
        for text in plain:
            with self.subTest(text=text):
                self.assertEqual(faults(text), [])

    def test_wrong_code_has_a_fault(self):
        wrong = (
            "import sys\n", "from os import path\n", "x = 1 / 2\n", "x = 1.5\n", "x = y = 1\n", "x: int = 1\n",
            "def f(*xs):\n    return xs\n", "def f():\n    yield 1\n", "def f():\n    'words'\n", "print(1)\n",
            "def f(x):\n    return x is 3\n", "def f(x):\n    return {y for y in x}\n", "def f(x):\n    x.sort()\n",
            "def f(x):\n    return f'{x + 1}'\n", "def f(x):\n    return x.encode()\n", "def f(id):\n    return id\n",
            "class A:\n    x = 1\n", "def f():\n    try:\n        g()\n    except Exception:\n        pass\n",
            "def f(n):\n    return 2 ** n\n", "x = 'a % b'\n", "x = 1\t\n", "# type\n", "def _f():\n    pass\n",
            "def f(xs):\n    for x in xs:\n        pass\n    else:\n        pass\n", "x = 1 # " + "y" * 120 + "\n",
            "def f():\n" + "    pass\n" * 40, "def f():\n    pass\n" * 2, "# row\n" * 401, "x = 1\n" * 2, "if True:\n    pass\n",
            "def f(x):\n    y = range(x)\n    return y\n", "def f(x):\n    return reversed(range(x))\n",
            "def f(x):\n    return set(x)\n", "def f(x):\n    for y in x:\n        x.append(y)\n",
            "def f(x):\n    for y in enumerate(x):\n        x[0] = y\n", "def f(x):\n    return x.items()\n",
            "class Ab:\n    pass\n\n\ndef f():\n    return Ab\n", "def f(x):\n    return x.append\n",
            "def f(x):\n    return x.split(sep=' ')\n", "def f(x):\n    return sorted(x, cmp=1)\n",
            "XS = [1]\n\n\ndef f():\n    return XS\n", "XS = [1]\n\n\ndef f():\n    XS[0] = 2\n",
            "class Ab:\n    def __init__(self):\n        self.items = 1\n", "def f(x):\n    raise x\n",
            "class Ab:\n    def f(self):\n        pass\n\n    def f(self):\n        pass\n",
            "def f(x: int):\n    return x\n", "def f():\n    return len\n",
            "def f():\n    return open\n", "x = b''\n", "def f(x):\n    with x:\n        pass\n", "x = '\u00e9'\n",
        )
        for text in wrong:
            with self.subTest(text=text[:60]):
                self.assertNotEqual(faults(text), [])


if __name__ == "__main__":
    unittest.main()
