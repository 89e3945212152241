"""What of LANGUAGE.md can be seen at a glance; the rest is kept by reading."""

import ast
import pathlib
import re
import unittest
import warnings

PACKAGE = pathlib.Path(__file__).resolve().parent.parent / "roundstore"
INTERFACE = {
    "marks.py": ("RING", "STOP", "WARN"),
    "errors.py": (
        "NoStore", "NoLine", "Busy", "Taken", "NoDeed", "NoName", "NoHouse", "NoTable", "NoRow", "Late", "Waits",
        "Looked", "NoNumber", "Stopped", "NoText",
    ),
    "ring.py": ("on", "steps", "before", "eldest", "spread"),
}
BARRED = (
    "type", "typing", "typing_extensions", "enum", "Enum", "IntEnum", "StrEnum", "Flag", "IntFlag", "Generic",
    "Protocol", "ABC", "ABCMeta", "namedtuple", "NamedTuple", "TypedDict", "TYPE_CHECKING", "abstractmethod",
)
BARRED_INSIDE = ("dataclass", "overload", "contextmanager")


def sources():
    return [(path, path.read_text(encoding="utf-8")) for path in sorted(PACKAGE.rglob("*.py"))]


def bound_names(tree):
    """The names that a module binds itself, by def, class or an assignment."""
    for node in tree.body:
        if isinstance(node, (ast.FunctionDef, ast.ClassDef)):
            yield node.name
        elif isinstance(node, ast.Assign):
            yield node.targets[0].id


class Language(unittest.TestCase):
    def test_l1_nothing_but_python_files(self):
        self.assertTrue((PACKAGE / "__init__.py").is_file())
        for path in PACKAGE.rglob("*"):
            if "__pycache__" not in path.parts:
                self.assertRegex(path.name, r"^[a-z0-9_]+\.py$")

    def test_l2_l16_imports(self):
        for path, text in sources():
            for node in ast.walk(ast.parse(text)):
                self.assertNotIsInstance(node, ast.Import, path)
                if isinstance(node, ast.ImportFrom):
                    self.assertTrue(node.module.startswith("roundstore."), path)
                    defined = PACKAGE / (node.module.partition(".")[2] + ".py")
                    here = list(bound_names(ast.parse(defined.read_text(encoding="utf-8"))))
                    for name in node.names:
                        self.assertIn(name.name, here, path)

    def test_l10_sizes(self):
        for path, text in sources():
            lines = text.split("\n")
            self.assertLessEqual(len(lines), 399, path)
            self.assertLessEqual(max(len(line) for line in lines), 120, path)
            for node in ast.walk(ast.parse(text)):
                if isinstance(node, ast.FunctionDef):
                    self.assertLessEqual(node.end_lineno - node.lineno + 1, 40, (path, node.name))

    def test_l14_l27_signs(self):
        for path, text in sources():
            self.assertRegex(text, r"\A[ -~\n]*\Z", path)
            for node in ast.walk(ast.parse(text)):
                if isinstance(node, ast.Constant) and isinstance(node.value, str):
                    self.assertNotIn("%", node.value, path)

    def test_l16_interface_stands_in_its_file(self):
        for name, wanted in INTERFACE.items():
            bound = list(bound_names(ast.parse((PACKAGE / name).read_text(encoding="utf-8"))))
            for one in wanted:
                self.assertEqual(bound.count(one), 1, (name, one))

    def test_l17_barred_words(self):
        for path, text in sources():
            words = set(re.findall(r"\w+", text))
            self.assertEqual(words & set(BARRED), set(), path)
            for barred in BARRED_INSIDE:
                self.assertNotIn(barred, text, path)

    def test_l27_no_warnings(self):
        with warnings.catch_warnings():
            warnings.simplefilter("error")
            for path, text in sources():
                compile(text, str(path), "exec")


if __name__ == "__main__":
    unittest.main()
