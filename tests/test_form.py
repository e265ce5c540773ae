"""The interface as DOC.md lists it, and those rules of LANGUAGE.md that can be seen in a file as such."""

import ast
import importlib
import inspect
import pathlib
import re
import unittest

PACKAGE = pathlib.Path(__file__).resolve().parent.parent / "keywaits"
FILES = sorted(PACKAGE.glob("*.py"))
INTERFACE = {
    "maps": {"KeyMap": "(modes, wait, bindings)", "reachable_modes": "(keymap)"},
    "player": {
        "play": "(keymap, strokes)",
        "commands_of": "(keymap, strokes)",
        "state_at": "(keymap, strokes, tick)",
        "find_delays": "(keymap, strokes)",
    },
    "comparing": {
        "first_parting": "(one, other, *, is_timed=True)",
        "are_alike": "(one, other, *, is_timed=True)",
    },
    "delays": {"greatest_delay": "(keymap)"},
    "thinning": {
        "late_pairs": "(keymap)",
        "fewest_to_drop": "(keymap)",
        "find_chains": "(keymap)",
        "judge_chains": "(keymap, chains)",
        "without_bindings": "(keymap, *indexes)",
    },
    "repeating": {
        "count_repeated": "(keymap, strokes, length, times)",
        "repeated_event": "(keymap, strokes, length, number)",
    },
    "waits": {"good_waits": "(keymap, wanted, inner, outer)", "HiddenWait": "(keymap)"},
}
# Of each class: its properties, its class methods and its other methods.
CLASSES = {
    ("maps", "KeyMap"): (
        ("modes", "wait", "bindings"), {"simple": "(wait, **commands)"}, {"with_wait": "(self, wait)"},
    ),
    ("waits", "HiddenWait"): (
        ("candidates", "history"),
        {"from_log": "(keymap, *observations)"},
        {
            "see": "(self, strokes, events)",
            "see_commands": "(self, strokes, *commands)",
            "telling_strokes": "(self)",
        },
    ),
}
BARRED_WORDS = re.compile(
    r"\b(type|typing|typing_extensions|enum|Enum|IntEnum|StrEnum|Flag|IntFlag|Generic|Protocol|ABC|ABCMeta|namedtuple"
    r"|NamedTuple|TypedDict|TYPE_CHECKING|abstractmethod|register|mro|elements|open|input|law|version_info|eval|exec"
    r"|global|async|chr|id|hash|map|filter|round|vars|dir|globals|locals|print|float)\b"
    r"|dataclass|overload|contextmanager"
)


def code_without_comments(text):
    """Return the code of a file without its comments and docstrings."""
    return ast.unparse(without_docstrings(ast.parse(text)))


def without_docstrings(tree):
    for node in ast.walk(tree):
        if isinstance(node, (ast.Module, ast.ClassDef, ast.FunctionDef)) and ast.get_docstring(node) is not None:
            node.body = node.body[1:] or [ast.Pass()]
    return tree


class InterfaceTest(unittest.TestCase):
    def test_names_and_arguments(self):
        for file_name, names in INTERFACE.items():
            module = importlib.import_module("keywaits." + file_name)
            for name, arguments in names.items():
                with self.subTest(file=file_name, name=name):
                    found = getattr(module, name)
                    self.assertEqual(module.__name__, found.__module__)
                    self.assertEqual(arguments, str(inspect.signature(found)))

    def test_parts_of_classes(self):
        for (file_name, class_name), (properties, class_methods, methods) in CLASSES.items():
            with self.subTest(class_name):
                # What stands in the class itself, not in a base class.
                parts = vars(getattr(importlib.import_module("keywaits." + file_name), class_name))
                for name in properties:
                    self.assertIsInstance(parts[name], property)
                for name, arguments in class_methods.items():
                    self.assertIsInstance(parts[name], classmethod)
                    self.assertEqual(arguments, str(inspect.signature(parts[name].__get__(None, object))))
                for name, arguments in methods.items():
                    self.assertEqual(arguments, str(inspect.signature(parts[name])))

    def test_generators(self):
        player = importlib.import_module("keywaits.player")
        self.assertTrue(inspect.isgeneratorfunction(player.commands_of))


class FormTest(unittest.TestCase):
    def each_file(self):
        for path in FILES:
            with self.subTest(path.name):
                yield path.read_text("ascii")

    def test_folder(self):
        names = [path.name for path in PACKAGE.iterdir() if path.name != "__pycache__"]
        for name in names:
            self.assertRegex(name, r"\A[a-z_]+\.py\Z")

    def test_characters_and_sizes(self):
        for text in self.each_file():
            self.assertRegex(text, r"\A[\n -~]*\Z")
            self.assertLess(text.count("\n"), 400)
            self.assertLessEqual(max(len(line) for line in text.split("\n")), 120)

    def test_sizes_of_functions(self):
        for text in self.each_file():
            for node in ast.walk(ast.parse(text)):
                if isinstance(node, ast.FunctionDef):
                    self.assertLessEqual(node.end_lineno - node.lineno + 1, 40, node.name)

    def test_imports(self):
        for text in self.each_file():
            for node in ast.walk(ast.parse(text)):
                self.assertNotIsInstance(node, ast.Import)
                if isinstance(node, ast.ImportFrom):
                    self.assertEqual(0, node.level)
                    self.assertTrue(node.module.startswith("keywaits."), node.module)

    def test_module_level(self):
        allowed = (ast.ImportFrom, ast.FunctionDef, ast.ClassDef, ast.Assign, ast.Pass)
        for text in self.each_file():
            for node in without_docstrings(ast.parse(text)).body:
                self.assertIsInstance(node, allowed)

    def test_words(self):
        for text in self.each_file():
            self.assertIsNone(BARRED_WORDS.search(code_without_comments(text)))

    def test_decorators(self):
        for text in self.each_file():
            for node in ast.walk(ast.parse(text)):
                for decorator in getattr(node, "decorator_list", ()):
                    self.assertIn(ast.unparse(decorator), ("property", "classmethod", "staticmethod"))
