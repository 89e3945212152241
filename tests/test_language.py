"""What of LANGUAGE.md can be seen at a glance; the rest is kept by reading."""

import ast
import builtins
import pathlib
import re
import unittest
import warnings

PACKAGE = pathlib.Path(__file__).resolve().parent.parent / "roundstore"
INTERFACE = {
    "marks.py": ("RING", "STOP", "WARN"),
    "errors.py": (
        "NoStore", "NoLine", "Busy", "Taken", "NoDeed", "NoName", "NoHouse", "NoTable", "NoRow", "Late", "Waits",
        "Looked", "NoNumber", "Stopped", "NoText",
    ),
    "ring.py": ("on", "steps", "before", "eldest", "spread"),
    "looks.py": ("is_look", "low", "sees"),
    "versions.py": ("state", "shown", "frozen"),
    "store.py": ("Store",),
    "plans.py": ("worst", "fewest", "reached", "passes"),
    "walk.py": ("Walk",),
    "logs.py": ("come_up",),
    "desk.py": ("Desk",),
}
METHODS = {
    "Store": (
        "__init__", "begin", "put", "cut", "done", "fell", "work", "rows", "why", "versions", "fates", "lookers",
        "next", "holders", "horizon", "floor", "room", "eldest_of", "warned", "freeze", "hold", "let", "__str__",
        "__len__", "__repr__", "__eq__",
    ),
    "Walk": ("__init__", "begin", "put", "cut", "done", "fell", "hold", "let", "rows"),
    "Desk": ("__init__", "say"),
}
BARRED = (
    "type", "typing", "typing_extensions", "enum", "Enum", "IntEnum", "StrEnum", "Flag", "IntFlag", "Generic",
    "Protocol", "ABC", "ABCMeta", "namedtuple", "NamedTuple", "TypedDict", "TYPE_CHECKING", "abstractmethod",
)
BARRED_INSIDE = ("dataclass", "overload", "contextmanager")
BARRED_NAMES = ("register", "mro", "elements", "open", "input", "law", "version_info", "with_traceback", "add_note")
TAKEN_BUILTINS = (
    "len", "range", "enumerate", "zip", "min", "max", "sum", "abs", "sorted", "reversed", "int", "str", "bool", "bytes",
    "list", "tuple", "dict", "set", "frozenset", "isinstance", "ord", "repr", "any", "all", "divmod", "iter", "next",
    "Exception", "ValueError", "TypeError", "KeyError", "IndexError", "LookupError", "ZeroDivisionError",
    "ArithmeticError", "OverflowError", "RuntimeError", "NotImplementedError", "AttributeError", "StopIteration",
    "NotImplemented",
)
TAKEN_METHODS = (
    "append", "clear", "copy", "count", "endswith", "extend", "find", "get", "index", "insert", "isalnum", "isalpha",
    "isdigit", "islower", "isspace", "isupper", "items", "join", "keys", "ljust", "lower", "lstrip", "partition", "pop",
    "remove", "replace", "reverse", "rfind", "rjust", "rpartition", "rsplit", "rstrip", "setdefault", "split",
    "splitlines", "startswith", "strip", "update", "upper", "values", "zfill", "bit_length", "isascii", "removeprefix",
    "removesuffix", "isdecimal",
)


def sources():
    return [(path, path.read_text(encoding="utf-8")) for path in sorted(PACKAGE.rglob("*.py"))]


def bound_names(tree):
    """The names that a module binds itself, by def, class or an assignment."""
    for node in tree.body:
        if isinstance(node, (ast.FunctionDef, ast.ClassDef)):
            yield node.name
        elif isinstance(node, ast.Assign):
            yield node.targets[0].id


def nodes(*kinds):
    """All nodes of these kinds in the package, with their files' names."""
    for path, text in sources():
        for node in ast.walk(ast.parse(text)):
            if isinstance(node, kinds):
                yield path.name, node


def own_methods():
    return {one.name for _, node in nodes(ast.ClassDef) for one in node.body if isinstance(one, ast.FunctionDef)}


def own_attributes():
    return {node.attr for _, node in nodes(ast.Attribute) if isinstance(node.ctx, ast.Store)}


def is_simple(node):
    """What may be assigned and added in a finally."""
    if isinstance(node, ast.BinOp):
        return isinstance(node.op, ast.Add) and is_simple(node.left) and is_simple(node.right)
    if isinstance(node, ast.Attribute):
        return is_simple(node.value)
    if isinstance(node, (ast.List, ast.Tuple)):
        return all(is_simple(one) for one in node.elts)
    return isinstance(node, (ast.Name, ast.Constant))


def is_test(node):
    """What may be asked in a finally, where a class has __eq__ or __len__."""
    if isinstance(node, ast.BoolOp):
        return all(is_test(one) for one in node.values)
    if isinstance(node, ast.UnaryOp):
        return isinstance(node.op, ast.Not) and is_test(node.operand)
    return (isinstance(node, ast.Compare) and isinstance(node.ops[0], (ast.Is, ast.IsNot))
            and isinstance(node.comparators[0], ast.Constant) and node.comparators[0].value is None
            and isinstance(node.left, (ast.Name, ast.Attribute)))


def is_last_row(node):
    """Whether a row may stand in a finally."""
    if isinstance(node, ast.If):
        return is_test(node.test) and all(is_last_row(one) for one in node.body + node.orelse)
    if isinstance(node, ast.Assign):
        return len(node.targets) == 1 and is_simple(node.targets[0]) and is_simple(node.value)
    if isinstance(node, ast.Expr) and isinstance(node.value, ast.Call):
        call = node.value
        return (isinstance(call.func, ast.Attribute) and call.func.attr in ("append", "clear")
                and all(is_simple(one) for one in call.args) and not call.keywords)
    return isinstance(node, ast.Pass)


def is_plain(node, bound):
    """Whether it may be assigned at module level: a plain value, or a table of such and of functions above."""
    if isinstance(node, ast.Tuple):
        return all(is_plain(one, bound) for one in node.elts)
    if isinstance(node, ast.Dict):
        return all(is_plain(one, bound) and not isinstance(one, ast.Dict) for one in node.keys + node.values)
    return isinstance(node, ast.Constant) or (isinstance(node, ast.Name) and node.id in bound)


class Language(unittest.TestCase):
    def test_l1_nothing_but_python_files(self):
        self.assertTrue((PACKAGE / "__init__.py").is_file())
        for path in PACKAGE.rglob("*"):
            if "__pycache__" not in path.parts:
                self.assertRegex(path.name, r"^[a-z0-9_]+\.py$")

    def test_l2_l16_imports(self):
        for path, text in sources():
            for node in ast.walk(ast.parse(text)):
                self.assertNotIsInstance(node, ast.Import, path)
                if isinstance(node, ast.ImportFrom):
                    self.assertTrue(node.module.startswith("roundstore."), path)
                    defined = PACKAGE / (node.module.partition(".")[2] + ".py")
                    here = list(bound_names(ast.parse(defined.read_text(encoding="utf-8"))))
                    for name in node.names:
                        self.assertIn(name.name, here, path)

    def test_l10_sizes(self):
        for path, text in sources():
            lines = text.split("\n")
            self.assertLessEqual(len(lines), 399, path)
            self.assertLessEqual(max(len(line) for line in lines), 120, path)
            for node in ast.walk(ast.parse(text)):
                if isinstance(node, ast.FunctionDef):
                    self.assertLessEqual(node.end_lineno - node.lineno + 1, 40, (path, node.name))

    def test_l14_l27_signs(self):
        for path, text in sources():
            self.assertRegex(text, r"\A[ -~\n]*\Z", path)
            for node in ast.walk(ast.parse(text)):
                if isinstance(node, ast.Constant) and isinstance(node.value, str):
                    self.assertNotIn("%", node.value, path)

    def test_l16_interface_stands_in_its_file(self):
        for name, wanted in INTERFACE.items():
            bound = list(bound_names(ast.parse((PACKAGE / name).read_text(encoding="utf-8"))))
            for one in wanted:
                self.assertEqual(bound.count(one), 1, (name, one))

    def test_l5_methods_stand_in_their_class(self):
        for name, node in nodes(ast.ClassDef):
            here = [one.name for one in node.body if isinstance(one, ast.FunctionDef)]
            self.assertEqual(len(here), len(set(here)), name)
            self.assertLessEqual(set(METHODS.get(node.name, ())), set(here), name)

    def test_l6_finally(self):
        for name, node in nodes(ast.Try):
            for row in node.finalbody:
                self.assertTrue(is_last_row(row), (name, row.lineno))

    def test_l19_handlers_name_own_errors(self):
        for name, node in nodes(ast.ExceptHandler):
            named = node.type.elts if isinstance(node.type, ast.Tuple) else [node.type]
            for one in named:
                self.assertIsInstance(one, ast.Name, name)
                self.assertIn(one.id, INTERFACE["errors.py"], name)
            self.assertIsNone(node.name, name)

    def test_l3_l15_module_level(self):
        for path, text in sources():
            bound = []
            for at, node in enumerate(ast.parse(text).body):
                self.assertIsInstance(node, (ast.ImportFrom, ast.FunctionDef, ast.ClassDef, ast.Assign, ast.Expr), path)
                if isinstance(node, ast.Expr):
                    self.assertTrue(at == 0 and isinstance(node.value, ast.Constant), path)
                if isinstance(node, ast.Assign):
                    self.assertTrue(is_plain(node.value, bound), (path, node.lineno))
                if isinstance(node, ast.FunctionDef):
                    bound.append(node.name)

    def test_l4_l5_functions_and_classes(self):
        for name, node in nodes(ast.FunctionDef, ast.ClassDef):
            self.assertEqual(node.decorator_list, [], name)
        for name, node in nodes(ast.ClassDef):
            for one in node.body:
                self.assertIsInstance(one, (ast.FunctionDef, ast.Expr), name)

    def test_l7_values(self):
        for name, node in nodes(ast.Constant, ast.Div, ast.GeneratorExp, ast.Global, ast.AsyncFunctionDef, ast.Await):
            self.assertIsInstance(node, ast.Constant, name)
            self.assertNotIsInstance(node.value, (float, complex), name)

    def test_l8_l15_builtins(self):
        named = set(dir(builtins))
        for name, node in nodes(ast.Name):
            if node.id in named:
                self.assertIn(node.id, TAKEN_BUILTINS, name)
                self.assertIsInstance(node.ctx, ast.Load, (name, node.id))
        for name, node in nodes(ast.arg):
            self.assertNotIn(node.arg, named, name)
        for name, node in nodes(ast.FunctionDef, ast.ClassDef):
            if node.name != "next":
                self.assertNotIn(node.name, named, name)

    def test_l12_l17_names(self):
        for name, node in nodes(ast.Name, ast.arg, ast.Attribute, ast.FunctionDef, ast.ClassDef, ast.keyword):
            found = [getattr(node, part, None) for part in ("id", "arg", "attr", "name")]
            word = [one for one in found if one is not None][0]
            if not word.startswith("__"):
                self.assertRegex(word, r"\A[A-Za-z][A-Za-z0-9_]*\Z", name)
            self.assertNotIn(word, BARRED_NAMES, name)

    def test_l15_no_local_has_an_imports_or_a_classes_name(self):
        for path, text in sources():
            tree = ast.parse(text)
            taken = {one.name for node in ast.walk(tree) if isinstance(node, ast.ImportFrom) for one in node.names}
            taken |= {node.name for node in tree.body if isinstance(node, ast.ClassDef)}
            bound = {node.arg for node in ast.walk(tree) if isinstance(node, ast.arg)}
            names = [node for node in ast.walk(tree) if isinstance(node, ast.Name)]
            bound |= {node.id for node in names if isinstance(node.ctx, ast.Store)}
            self.assertEqual(taken & bound, set(), path)

    def test_l16_no_circle_of_imports(self):
        reach = {path.name: set() for path, _ in sources()}
        for name, node in nodes(ast.ImportFrom):
            reach[name].add(node.module.partition(".")[2] + ".py")
        for _ in reach:
            for name in reach:
                reach[name] |= {far for near in reach[name] for far in reach[near]}
        for name in reach:
            self.assertNotIn(name, reach[name])

    def test_l18_l25_methods_and_attributes(self):
        methods, attributes = own_methods(), own_attributes()
        self.assertEqual(methods & attributes, set())
        for name, node in nodes(ast.Attribute):
            self.assertIn(node.attr, methods | attributes | set(TAKEN_METHODS), name)
            if isinstance(node.ctx, ast.Store):
                self.assertIsInstance(node.value, ast.Name, (name, node.lineno))

    def test_l20_is(self):
        for name, node in nodes(ast.Compare):
            for sign, other in zip(node.ops, node.comparators):
                if isinstance(sign, (ast.Is, ast.IsNot)):
                    self.assertIsInstance(other, ast.Constant, name)
                    self.assertIn(other.value, (None, True, False), name)

    def test_l17_barred_words(self):
        for path, text in sources():
            words = set(re.findall(r"\w+", text))
            self.assertEqual(words & set(BARRED), set(), path)
            for barred in BARRED_INSIDE:
                self.assertNotIn(barred, text, path)

    def test_l27_no_warnings(self):
        with warnings.catch_warnings():
            warnings.simplefilter("error")
            for path, text in sources():
                compile(text, str(path), "exec")


if __name__ == "__main__":
    unittest.main()
