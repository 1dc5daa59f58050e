"""Whether the package keeps to the subset of Python it is written in, as far as a look at the code tells."""

import ast
import builtins
import unittest
from pathlib import Path

ROOT = Path(__file__).resolve().parent.parent
PACKAGE = ROOT / "keptpartings"
LIBRARY = {
    "heapq": {"heappush", "heappop", "heapify", "heapreplace", "heappushpop"},
    "math": {"gcd", "lcm", "isqrt", "comb", "perm", "factorial"},
    "itertools": {"product", "combinations", "permutations"},
}
BUILTINS = set(
    "len range enumerate zip min max sum abs sorted reversed int str bool bytes list tuple dict set isinstance ord any "
    "all repr divmod map iter next Exception ValueError TypeError KeyError IndexError LookupError ZeroDivisionError "
    "ArithmeticError OverflowError RuntimeError NotImplementedError AttributeError NotImplemented "
    "super property staticmethod classmethod".split()
)
STATEMENTS = (
    ast.FunctionDef, ast.ClassDef, ast.Import, ast.ImportFrom, ast.Assign, ast.AugAssign, ast.AnnAssign, ast.If,
    ast.While, ast.For, ast.Return, ast.Break, ast.Continue, ast.Pass, ast.Raise, ast.Assert, ast.Delete,
    ast.Nonlocal, ast.Match, ast.With, ast.Try, ast.Expr,
)
BARRED = set(
    "register mro elements open input law version_info with_traceback add_note attrgetter breakpoint builtins compile "
    "copyright credits delattr dir eval exec exit gc getattr globals hasattr help id importlib license locals "
    "methodcaller os quit setattr type vars sys typing enum format format_map chr frozenset".split()
)
NOT_FREE = BARRED | {name for name in dir(builtins) if not name.startswith("_")}
INTERFACE = {
    "errors": {
        "PartError", "BadMachine", "BadWord", "BadParting", "BadStanding", "BadRow", "BadCode", "BadNumber",
        "BadPaper", "TooGreat", "Alone", "BadText", "NothingLeft",
    },
    "machines": {"need_machine", "run"},
    "partings": {
        "is_parting", "single", "whole", "blocks", "is_finer", "meet", "join", "all_partings",
    },
    "kept": {"is_kept", "drawn", "least_kept", "kept_partings", "led_table", "chain", "is_chain"},
    "rows": {"row_of", "is_row", "front_parting", "least_rear"},
    "sides": {"sides_of", "are_sides", "side_partings", "is_split", "split_paper", "check_split"},
    "ladders": {"needs", "longest_ladder", "width", "width_paper", "check_width"},
    "knowing": {"is_pair", "next_of", "before", "letters_alike"},
    "codes": {"is_code", "lots", "cost", "hangs", "best_code"},
    "shown": {"tells", "alike", "parting_word", "least_machine"},
    "bench": {"Bench", "under"},
    "texts": {"machine_text", "parting_text", "row_text", "read_machine", "read_parting"},
    "desk": {"Desk"},
}


def bound_names(node):
    """The names that a node gives to something."""
    if isinstance(node, (ast.FunctionDef, ast.ClassDef)):
        return [node.name]
    if isinstance(node, ast.arg):
        return [node.arg]
    if isinstance(node, ast.Name) and not isinstance(node.ctx, ast.Load):
        return [node.id]
    return []


class Form(unittest.TestCase):
    @classmethod
    def setUpClass(cls):
        cls.texts = {path.stem: path.read_text(encoding="utf-8") for path in sorted(PACKAGE.glob("*.py"))}
        cls.trees = {name: ast.parse(text) for name, text in cls.texts.items()}

    def nodes(self, *kinds):
        for name, tree in self.trees.items():
            for node in ast.walk(tree):
                if isinstance(node, kinds):
                    yield f"{name}:{getattr(node, 'lineno', 0)}", node

    def test_the_folder_contains_nothing_but_files_of_the_package(self):
        for path in PACKAGE.iterdir():
            if path.name != "__pycache__":
                self.assertEqual(path.suffix, ".py", path)
                self.assertEqual(path.name, path.name.lower())
        self.assertIn("__init__", self.texts)

    def test_characters_and_sizes(self):
        for name, text in self.texts.items():
            lines = text.split("\n")
            self.assertTrue(all(char == "\n" or " " <= char <= "~" for char in text), name)
            self.assertLessEqual(len(lines), 399, name)
            self.assertLessEqual(max(len(line) for line in lines), 120, name)
        for place, node in self.nodes(ast.FunctionDef):
            self.assertLessEqual(node.end_lineno - node.lineno + 1, 40, place)

    def test_imports(self):
        for place, node in self.nodes(ast.Import, ast.ImportFrom):
            self.assertIsInstance(node, ast.ImportFrom, place)
            self.assertEqual(node.level, 0, place)
            self.assertTrue(all(one.asname is None for one in node.names), place)
            names = {one.name for one in node.names}
            if node.module in LIBRARY:
                self.assertLessEqual(names, LIBRARY[node.module], place)
            else:
                top, _, name = node.module.partition(".")
                self.assertEqual(top, "keptpartings", place)
                own = [one for part in self.trees[name].body for one in self.module_names(part)]
                self.assertLessEqual(names, set(own), place)

    def module_names(self, node):
        if isinstance(node, ast.Assign):
            return [target.id for target in node.targets]
        return bound_names(node)

    def test_no_two_files_import_each_other(self):
        ahead = {
            name: {
                node.module.partition(".")[2] for node in ast.walk(tree)
                if isinstance(node, ast.ImportFrom) and node.module.startswith("keptpartings")
            }
            for name, tree in self.trees.items()
        }
        while ahead:
            free = [name for name in ahead if not ahead[name] & set(ahead)]
            self.assertTrue(free, ahead)
            ahead = {name: ahead[name] for name in ahead if name not in free}

    def test_statements(self):
        for place, node in self.nodes(ast.stmt):
            self.assertIsInstance(node, STATEMENTS, place)
        for place, node in self.nodes(ast.ExceptHandler):
            self.assertIsNotNone(node.type, place)

    def test_module_level(self):
        for name, tree in self.trees.items():
            kinds = (ast.Expr, ast.ImportFrom, ast.Assign, ast.AnnAssign, ast.FunctionDef, ast.ClassDef)
            for at, node in enumerate(tree.body):
                self.assertIsInstance(node, kinds, f"{name}:{node.lineno}")
                if isinstance(node, ast.Expr):
                    self.assertEqual(at, 0, f"{name}:{node.lineno}")
            names = [one for node in tree.body for one in self.module_names(node)]
            self.assertEqual(len(names), len(set(names)), name)

    def test_values(self):
        for place, node in self.nodes(ast.Constant):
            self.assertNotIsInstance(node.value, (float, complex), place)
            if isinstance(node.value, str):
                self.assertNotIn(chr(37), node.value, place)
        for place, _ in self.nodes(ast.Div, ast.MatMult):
            self.fail(place)

    def test_bytes_are_not_made(self):
        for place, node in self.nodes(ast.Call):
            if isinstance(node.func, ast.Name):
                self.assertNotEqual(node.func.id, "bytes", place)

    def test_names(self):
        for place, node in self.nodes(ast.AST):
            for name in bound_names(node):
                self.assertNotIn(name, NOT_FREE, place)
            if isinstance(node, ast.Name):
                self.assertFalse(node.id.startswith("__"), place)
                # Other tests may have left _ among the builtins, as an interpreter does that prints.
                if node.id != "_" and node.id in dir(builtins):
                    self.assertIn(node.id, BUILTINS, place)
                self.assertNotIn(node.id, BARRED, place)
            if isinstance(node, ast.Attribute):
                self.assertFalse(node.attr.startswith("__") and node.attr not in ("__init__", "__class__", "__name__"))

    def test_no_local_name_is_that_of_a_class_or_an_import_of_its_file(self):
        for name, tree in self.trees.items():
            taken = {node.name for node in tree.body if isinstance(node, ast.ClassDef)}
            taken |= {one.name for node in tree.body if isinstance(node, ast.ImportFrom) for one in node.names}
            for function in ast.walk(tree):
                if isinstance(function, ast.FunctionDef):
                    inner = [one for node in ast.walk(function) for one in bound_names(node)]
                    self.assertFalse(taken & set(inner), f"{name}:{function.lineno}")

    def test_the_interface_is_defined_in_its_file(self):
        for name, wanted in INTERFACE.items():
            self.assertLessEqual(wanted, {one for node in self.trees[name].body for one in bound_names(node)}, name)
