"""The interface as DOC.md lists it, and those rules of LANGUAGE.md that can be seen in a file as such."""

import ast
import builtins
import importlib
import inspect
import pathlib
import re
import unittest

PACKAGE = pathlib.Path(__file__).resolve().parent.parent / "keywaits"
FILES = sorted(PACKAGE.glob("*.py"))
INTERFACE = {
    "maps": {"KeyMap": "(modes, wait, bindings)", "reachable_modes": "(keymap)"},
    "player": {
        "play": "(keymap, strokes)",
        "commands_of": "(keymap, strokes)",
        "state_at": "(keymap, strokes, tick)",
        "find_delays": "(keymap, strokes)",
    },
    "comparing": {
        "first_parting": "(one, other, *, is_timed=True)",
        "are_alike": "(one, other, *, is_timed=True)",
    },
    "delays": {"greatest_delay": "(keymap)"},
    "thinning": {
        "late_pairs": "(keymap)",
        "fewest_to_drop": "(keymap)",
        "find_chains": "(keymap)",
        "judge_chains": "(keymap, chains)",
        "without_bindings": "(keymap, *indexes)",
    },
    "repeating": {
        "count_repeated": "(keymap, strokes, length, times)",
        "repeated_event": "(keymap, strokes, length, number)",
    },
    "waits": {"good_waits": "(keymap, wanted, inner, outer)", "HiddenWait": "(keymap)"},
    "board": {"Board": "(keymap)"},
    "workbench": {"Workbench": "(keymap)"},
    "notation": {
        "format_map": "(keymap)", "parse_map": "(text)", "format_strokes": "(strokes)", "parse_strokes": "(text)",
    },
    "codec": {
        "pack_bytes": "(values)",
        "unpack_bytes": "(data)",
        "encode_map": "(keymap)",
        "decode_map": "(data)",
        "encode_strokes": "(strokes)",
        "decode_strokes": "(data)",
    },
}
# Of each class: its properties, its class methods and its other methods.
CLASSES = {
    ("maps", "KeyMap"): (
        ("modes", "wait", "bindings"), {"simple": "(wait, **commands)"}, {"with_wait": "(self, wait)"},
    ),
    ("waits", "HiddenWait"): (
        ("candidates", "history"),
        {"from_log": "(keymap, *observations)"},
        {
            "see": "(self, strokes, events)",
            "see_commands": "(self, strokes, *commands)",
            "telling_strokes": "(self)",
        },
    ),
    ("board", "Board"): (
        ("board_map", "now", "mode_now", "waiting_keys", "all_strokes", "all_events"),
        {"replay": "(keymap, strokes)"},
        {
            "press": "(self, tick, *keys)",
            "finish": "(self)",
            "upcoming": "(self)",
            "undo": "(self)",
            "redo": "(self)",
            "probe": "(self, tick, *keys)",
            "__enter__": "(self)",
            "__exit__": "(self, kind, value, trace)",
        },
    ),
    ("workbench", "Workbench"): (
        ("present_map", "history"),
        {"replay": "(keymap, operations)"},
        {
            "versions": "(self)",
            "add_binding": "(self, binding)",
            "remove_binding": "(self, index)",
            "change_command": "(self, index, command)",
            "change_target": "(self, index, target)",
            "add_mode": "(self, mode)",
            "remove_mode": "(self, mode)",
            "set_wait": "(self, wait)",
            "undo": "(self)",
            "redo": "(self)",
            "apply": "(self, *operations)",
        },
    ),
}
# The only generators of the package.
GENERATORS = {("player", "commands_of"), ("board", "upcoming"), ("workbench", "versions")}
BARRED_WORDS = re.compile(
    r"\b(type|typing|typing_extensions|enum|Enum|IntEnum|StrEnum|Flag|IntFlag|Generic|Protocol|ABC|ABCMeta|namedtuple"
    r"|NamedTuple|TypedDict|TYPE_CHECKING|abstractmethod)\b|dataclass|overload|contextmanager"
)
BARRED_NAMES = set(
    "register mro elements open input law version_info with_traceback add_note attrgetter builtins gc importlib "
    "methodcaller os sys __name__ __class__".split()
)
BUILTINS = set(
    "len range enumerate zip min max sum abs sorted reversed int str bool bytes list tuple dict set isinstance ord "
    "repr any all divmod super ValueError property classmethod".split()
)
METHODS_OF_VALUES = set(
    "append clear copy count endswith extend find get index insert items join keys pop remove replace reverse "
    "setdefault split startswith update values add".split()
)
ATTRIBUTES_NOT_TO_STORE = set(
    "items keys values pop update append clear extend insert remove reverse setdefault sort args encode decode hex "
    "fromhex format format_map mro".split()
)


def code_without_comments(text):
    """Return the code of a file without its comments and docstrings."""
    return ast.unparse(without_docstrings(ast.parse(text)))


def without_docstrings(tree):
    for node in ast.walk(tree):
        if isinstance(node, (ast.Module, ast.ClassDef, ast.FunctionDef)) and ast.get_docstring(node) is not None:
            node.body = node.body[1:] or [ast.Pass()]
    return tree


def nodes_of(*kinds):
    """Return the list of the places (the file and the line) and nodes of these kinds in the whole package."""
    found = []
    for path in FILES:
        for node in ast.walk(ast.parse(path.read_text())):
            if isinstance(node, kinds):
                found.append((f"{path.name}:{getattr(node, 'lineno', 0)}", node))
    return found


class InterfaceTest(unittest.TestCase):
    def test_names_and_arguments(self):
        for file_name, names in INTERFACE.items():
            module = importlib.import_module("keywaits." + file_name)
            for name, arguments in names.items():
                with self.subTest(file=file_name, name=name):
                    found = getattr(module, name)
                    self.assertEqual(module.__name__, found.__module__)
                    self.assertEqual(arguments, str(inspect.signature(found)))

    def test_parts_of_classes(self):
        for (file_name, class_name), (properties, class_methods, methods) in CLASSES.items():
            with self.subTest(class_name):
                # What stands in the class itself, not in a base class.
                parts = vars(getattr(importlib.import_module("keywaits." + file_name), class_name))
                for name in properties:
                    self.assertIsInstance(parts[name], property)
                for name, arguments in class_methods.items():
                    self.assertIsInstance(parts[name], classmethod)
                    self.assertEqual(arguments, str(inspect.signature(parts[name].__get__(None, object))))
                for name, arguments in methods.items():
                    self.assertEqual(arguments, str(inspect.signature(parts[name])))

    def test_generators(self):
        found = set()
        for place, node in nodes_of(ast.FunctionDef):
            if any(isinstance(part, (ast.Yield, ast.YieldFrom)) for part in ast.walk(node)):
                found.add((place.split(".")[0], node.name))
        self.assertEqual(GENERATORS, found)

    def test_where_things_are_defined(self):
        for file_name, names in INTERFACE.items():
            tree = ast.parse((PACKAGE / (file_name + ".py")).read_text())
            defined = [node.name for node in tree.body if isinstance(node, (ast.FunctionDef, ast.ClassDef))]
            self.assertLessEqual(set(names), set(defined))


class FormTest(unittest.TestCase):
    def test_folder(self):
        names = [path.name for path in PACKAGE.iterdir() if path.name != "__pycache__"]
        for name in names:
            self.assertRegex(name, r"\A[a-z_]+\.py\Z")

    def test_characters_and_sizes(self):
        for path in FILES:
            text = path.read_text("ascii")
            self.assertRegex(text, r"\A[\n -~]*\Z")
            self.assertLess(text.count("\n"), 400)
            self.assertLessEqual(max(len(line) for line in text.split("\n")), 120)

    def test_sizes_of_functions(self):
        for place, node in nodes_of(ast.FunctionDef):
            self.assertLessEqual(node.end_lineno - node.lineno + 1, 40, place)

    def test_imports(self):
        self.assertEqual([], nodes_of(ast.Import))
        for place, node in nodes_of(ast.ImportFrom):
            self.assertEqual(0, node.level, place)
            self.assertTrue(node.module.startswith("keywaits."), place)

    def test_module_level(self):
        allowed = (ast.ImportFrom, ast.FunctionDef, ast.ClassDef, ast.Assign, ast.Pass)
        for path in FILES:
            for node in without_docstrings(ast.parse(path.read_text())).body:
                self.assertIsInstance(node, allowed)

    def test_words(self):
        for path in FILES:
            self.assertIsNone(BARRED_WORDS.search(code_without_comments(path.read_text())), path.name)

    def test_strings(self):
        for path in FILES:
            for node in ast.walk(without_docstrings(ast.parse(path.read_text()))):
                if isinstance(node, ast.Constant) and isinstance(node.value, str):
                    self.assertNotIn("%", node.value, path.name)
                    self.assertNotRegex(node.value, r"\A__|\._\Z|\.__\Z", path.name)

    def test_decorators(self):
        for place, node in nodes_of(ast.FunctionDef, ast.ClassDef):
            for decorator in node.decorator_list:
                self.assertIn(ast.unparse(decorator), ("property", "classmethod", "staticmethod"), place)

    def test_builtins(self):
        for place, node in nodes_of(ast.Name):
            if node.id in dir(builtins):
                self.assertIn(node.id, BUILTINS, place)
                self.assertIsInstance(node.ctx, ast.Load, place)
        named = [(place, node.arg) for place, node in nodes_of(ast.arg)]
        named += [(place, node.name) for place, node in nodes_of(ast.FunctionDef, ast.ClassDef)]
        for place, name in named:
            self.assertNotIn(name, dir(builtins), place)

    def test_names(self):
        for place, node in nodes_of(ast.AST):
            for name in [getattr(node, field, None) for field in ("id", "arg", "name", "attr")]:
                self.assertNotIn(name, BARRED_NAMES, place)
                if isinstance(name, str) and name.startswith("__"):
                    self.assertIn(name, ("__init__", "__eq__", "__enter__", "__exit__"), place)

    def test_attributes(self):
        stored = {node.attr for _, node in nodes_of(ast.Attribute) if isinstance(node.ctx, ast.Store)}
        methods = {
            part.name for _, node in nodes_of(ast.ClassDef) for part in node.body if isinstance(part, ast.FunctionDef)
        }
        self.assertEqual(set(), stored & (ATTRIBUTES_NOT_TO_STORE | methods))
        self.assertEqual(set(), methods & METHODS_OF_VALUES)
        for place, node in nodes_of(ast.Attribute):
            self.assertIn(node.attr, stored | methods | METHODS_OF_VALUES, place)

    def test_calls(self):
        for place, node in nodes_of(ast.Call):
            if ast.unparse(node.func) in ("any", "all", "min", "max", "sum", "sorted"):
                self.assertNotIn(ast.GeneratorExp, [part.__class__ for part in node.args], place)

    def test_statements(self):
        # What LANGUAGE.md lets only under conditions, and what the package does without.
        kinds = (
            ast.Try, ast.Global, ast.Nonlocal, ast.AsyncFunctionDef, ast.AnnAssign, ast.NamedExpr, ast.Delete,
            ast.Match, ast.Div, ast.MatMult, ast.Set, ast.GeneratorExp,
        )
        self.assertEqual([], nodes_of(*kinds))

    def test_is(self):
        for place, node in nodes_of(ast.Compare):
            if isinstance(node.ops[0], (ast.Is, ast.IsNot)):
                self.assertEqual("None", ast.unparse(node.comparators[0]), place)

    def test_rests_of_numbers(self):
        # The package makes bytes: so what stands ahead of each of these signs is plainly a number.
        for place, node in nodes_of(ast.BinOp, ast.AugAssign):
            if isinstance(node.op, ast.Mod):
                self.assertTrue(ast.unparse(node.left).startswith("int("), place)

    def test_ends_of_blocks(self):
        for _, node in nodes_of(ast.FunctionDef):
            if node.name == "__exit__":
                for statement in node.body:
                    self.assertRegex(ast.unparse(statement), r"\Aself\.\w+ = (self\.\w+|None)\Z")
