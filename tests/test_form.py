"""The form of the package: what can be seen at a glance of the rules of the Python subset it is written in."""

import ast
import builtins
import pathlib
import re
import unittest

PACKAGE = pathlib.Path(__file__).resolve().parent.parent / "spoorfold"
FILES = sorted(path for path in PACKAGE.rglob("*") if path.is_file() and "__pycache__" not in path.parts)
BARRED = ("type typing typing_extensions enum Enum IntEnum StrEnum Flag IntFlag Generic Protocol ABC ABCMeta "
          "namedtuple NamedTuple TypedDict TYPE_CHECKING abstractmethod").split()

# What the interface lists: a file, its functions and classes, and the methods of each class.
INTERFACE = {
    "errors.py": {name: [] for name in (
        "SpoorError BadWord BadName BadWorld BadStep BadPaper BadRounds BadPage TooLong Taken Full Heavy Unproved "
        "Stopped Wide Lacking NoPlace NoName NoLine NothingLeft").split()},
    "words.py": {name: [] for name in "is_word undone reduced letters_of below".split()},
    "tracks.py": {"Track": "spots end plain joined back within __eq__ __len__ __str__ __repr__".split()},
    "steps.py": {name: [] for name in "stepped walked to_plain between".split()},
    "worlds.py": {"World": ("moves letters go motion seen ways is_whole widened breaks __eq__ __len__ "
                            "__repr__").split()},
    "papers.py": {name: [] for name in "claims shows".split()},
    "webs.py": {"Web": "closed rounds go world paper __len__".split()},
    "verdicts.py": {name: [] for name in "judge alike beneath".split()},
    "orders.py": {name: [] for name in "motions stills boxes kin are_kin".split()},
    "roses.py": {name: [] for name in "rose made_of makers sides shared parting".split()},
    "stands.py": {"is_name": []},
    "hall.py": {"Hall": ("like strike put forget shelve unshelve together undo redo alike beneath supposing breaks "
                         "lines coming words text_of shelf paper laid past twin __eq__ __len__ __repr__").split()},
    "pages.py": {name: [] for name in "page read_page".split()},
    "desk.py": {"Desk": ["say"]},
}


def nodes(*kinds):
    """Each node of these kinds in the package, with the name of its file."""
    for path in FILES:
        for node in ast.walk(ast.parse(path.read_text("utf-8"))):
            if isinstance(node, kinds):
                yield path.name, node


class FormTest(unittest.TestCase):

    def test_files(self):
        self.assertIn("__init__.py", [path.name for path in FILES])
        for path in FILES:
            self.assertRegex(path.name, r"^[a-z_][a-z0-9_]*\.py$")

    def test_characters_and_sizes(self):
        for path in FILES:
            text = path.read_text("utf-8")
            self.assertRegex(text, r"\A[ -~\n]*\Z", path.name)
            rows = text.splitlines()
            self.assertLessEqual(len(rows), 399, path.name)
            self.assertLessEqual(max([len(row) for row in rows], default=0), 120, path.name)

    def test_functions_are_short(self):
        for path in FILES:
            for node in ast.walk(ast.parse(path.read_text("utf-8"))):
                if isinstance(node, ast.FunctionDef):
                    self.assertLessEqual(node.end_lineno - node.lineno + 1, 40, (path.name, node.name))

    def test_words_that_do_not_occur(self):
        for path in FILES:
            text = path.read_text("utf-8")
            for word in BARRED:
                self.assertIsNone(re.search(rf"\b{word}\b", text), (path.name, word))
            self.assertIsNone(re.search("dataclass|overload|contextmanager", text), path.name)

    def test_imports_are_of_the_package(self):
        for path in FILES:
            for node in ast.walk(ast.parse(path.read_text("utf-8"))):
                self.assertNotIsInstance(node, ast.Import, path.name)
                if isinstance(node, ast.ImportFrom):
                    self.assertTrue(node.level == 0 and node.module.startswith("spoorfold."), path.name)

    def test_only_allowed_builtins_are_read(self):
        barred = ("open input eval exec getattr setattr hasattr print map filter chr float id hash vars object "
                  "dir globals locals super format round pow callable memoryview bytearray bytes").split()
        for path in FILES:
            for node in ast.walk(ast.parse(path.read_text("utf-8"))):
                if isinstance(node, ast.Name):
                    self.assertNotIn(node.id, barred, (path.name, node.lineno))
                    self.assertFalse(node.id.startswith("_"), (path.name, node.lineno))

    def test_imported_names_are_defined_where_they_are_imported_from(self):
        for name, node in nodes(ast.ImportFrom):
            tree = ast.parse((PACKAGE / f"{node.module.partition('.')[2]}.py").read_text("utf-8"))
            defined = [thing.name for thing in tree.body if isinstance(thing, (ast.FunctionDef, ast.ClassDef))]
            defined += [target.id for thing in tree.body if isinstance(thing, ast.Assign) for target in thing.targets]
            for alias in node.names:
                self.assertIn(alias.name, defined, name)
                self.assertIsNone(alias.asname, name)

    def test_no_name_is_a_method_and_an_attribute(self):
        methods = {thing.name for _, node in nodes(ast.ClassDef) for thing in node.body
                   if isinstance(thing, ast.FunctionDef)}
        attributes = {node.attr for _, node in nodes(ast.Attribute) if isinstance(node.ctx, ast.Store)}
        self.assertEqual(methods & attributes, set())

    def test_no_name_of_a_builtin_is_given_another_meaning(self):
        for name, node in nodes(ast.FunctionDef, ast.ClassDef, ast.arg, ast.Name):
            told = getattr(node, "name", None) or getattr(node, "arg", None) or node.id
            if not isinstance(node, ast.Name) or isinstance(node.ctx, ast.Store):
                self.assertNotIn(told, dir(builtins), (name, node.lineno))

    def test_is_stands_beside_none_true_and_false(self):
        for name, node in nodes(ast.Compare):
            for sign, thing in zip(node.ops, node.comparators):
                if isinstance(sign, (ast.Is, ast.IsNot)):
                    self.assertTrue(isinstance(thing, ast.Constant) and thing.value in (None, True, False), name)

    def test_what_is_not_used_at_all(self):
        barred = (ast.GeneratorExp, ast.Set, ast.SetComp, ast.Global, ast.AsyncFunctionDef, ast.Div, ast.Pow, ast.Match)
        self.assertEqual([(name, node.lineno) for name, node in nodes(*barred) if hasattr(node, "lineno")], [])
        self.assertEqual([name for name, _ in nodes(ast.Div, ast.Pow)], [])
        self.assertEqual([name for name, node in nodes(ast.Constant) if isinstance(node.value, (float, complex))], [])
        self.assertEqual([name for name, node in nodes(ast.Constant) if "%" in str(node.value)], [])

    def test_what_the_interface_lists_is_defined_in_its_file(self):
        for name, listed in INTERFACE.items():
            tree = ast.parse((PACKAGE / name).read_text("utf-8"))
            defined = {node.name: node for node in tree.body if isinstance(node, (ast.FunctionDef, ast.ClassDef))}
            for thing, methods in listed.items():
                self.assertIn(thing, defined, name)
                here = [node.name for node in defined[thing].body if isinstance(node, ast.FunctionDef)]
                for method in methods:
                    self.assertIn(method, here, (name, thing))


if __name__ == "__main__":
    unittest.main()
