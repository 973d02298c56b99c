"""The form of the package: what can be seen at a glance of the rules of the Python subset it is written in."""

import ast
import pathlib
import re
import unittest

PACKAGE = pathlib.Path(__file__).resolve().parent.parent / "spoorfold"
FILES = sorted(path for path in PACKAGE.rglob("*") if path.is_file() and "__pycache__" not in path.parts)
BARRED = ("type typing typing_extensions enum Enum IntEnum StrEnum Flag IntFlag Generic Protocol ABC ABCMeta "
          "namedtuple NamedTuple TypedDict TYPE_CHECKING abstractmethod").split()

# What the interface lists: a file, its functions and classes, and the methods of each class.
INTERFACE = {
    "errors.py": {name: [] for name in (
        "SpoorError BadWord BadName BadWorld BadStep BadPaper BadRounds BadPage TooLong Taken Full Heavy Unproved "
        "Stopped Wide Lacking NoPlace NoName NoLine NothingLeft").split()},
    "words.py": {name: [] for name in "is_word undone reduced letters_of below".split()},
    "tracks.py": {"Track": "spots end plain joined back within __eq__ __len__ __str__ __repr__".split()},
}


class FormTest(unittest.TestCase):

    def test_files(self):
        self.assertIn("__init__.py", [path.name for path in FILES])
        for path in FILES:
            self.assertRegex(path.name, r"^[a-z_][a-z0-9_]*\.py$")

    def test_characters_and_sizes(self):
        for path in FILES:
            text = path.read_text("utf-8")
            self.assertRegex(text, r"\A[ -~\n]*\Z", path.name)
            rows = text.splitlines()
            self.assertLessEqual(len(rows), 399, path.name)
            self.assertLessEqual(max([len(row) for row in rows], default=0), 120, path.name)

    def test_functions_are_short(self):
        for path in FILES:
            for node in ast.walk(ast.parse(path.read_text("utf-8"))):
                if isinstance(node, ast.FunctionDef):
                    self.assertLessEqual(node.end_lineno - node.lineno + 1, 40, (path.name, node.name))

    def test_words_that_do_not_occur(self):
        for path in FILES:
            text = path.read_text("utf-8")
            for word in BARRED:
                self.assertIsNone(re.search(rf"\b{word}\b", text), (path.name, word))
            self.assertIsNone(re.search("dataclass|overload|contextmanager", text), path.name)

    def test_imports_are_of_the_package(self):
        for path in FILES:
            for node in ast.walk(ast.parse(path.read_text("utf-8"))):
                self.assertNotIsInstance(node, ast.Import, path.name)
                if isinstance(node, ast.ImportFrom):
                    self.assertTrue(node.level == 0 and node.module.startswith("spoorfold."), path.name)

    def test_only_allowed_builtins_are_read(self):
        barred = ("open input eval exec getattr setattr hasattr print map filter chr float id hash vars object "
                  "dir globals locals super format round pow callable memoryview bytearray bytes").split()
        for path in FILES:
            for node in ast.walk(ast.parse(path.read_text("utf-8"))):
                if isinstance(node, ast.Name):
                    self.assertNotIn(node.id, barred, (path.name, node.lineno))
                    self.assertFalse(node.id.startswith("_"), (path.name, node.lineno))

    def test_what_the_interface_lists_is_defined_in_its_file(self):
        for name, listed in INTERFACE.items():
            tree = ast.parse((PACKAGE / name).read_text("utf-8"))
            defined = {node.name: node for node in tree.body if isinstance(node, (ast.FunctionDef, ast.ClassDef))}
            for thing, methods in listed.items():
                self.assertIn(thing, defined, name)
                here = [node.name for node in defined[thing].body if isinstance(node, ast.FunctionDef)]
                for method in methods:
                    self.assertIn(method, here, (name, thing))


if __name__ == "__main__":
    unittest.main()
