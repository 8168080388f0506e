"""The rules of LANGUAGE.md that can be looked up row by row in the package's files."""

import ast
import builtins
import os
import re
import unittest

FOLDER = os.path.join(os.path.dirname(os.path.dirname(os.path.abspath(__file__))), "deepspot")

# L6 and L7: what a file may be made of.
NODES = (
    "Module Import ImportFrom alias FunctionDef ClassDef arguments arg Expr Assign AugAssign If While For Return "
    "Break Continue Pass Raise Try ExceptHandler Constant List Tuple Dict Set BinOp BoolOp UnaryOp Compare IfExp "
    "Call keyword Attribute Subscript Slice ListComp comprehension JoinedStr FormattedValue Lambda Name Load Store "
    "Add Sub Mult FloorDiv Mod Pow BitAnd BitOr BitXor LShift RShift Invert Not USub UAdd And Or "
    "Eq NotEq Lt LtE Gt GtE Is IsNot In NotIn"
).split()

# L8: which of Python's own names may stand there.
OWN = (
    "len range enumerate zip min max sum abs sorted reversed int str bool list tuple dict set frozenset isinstance "
    "ord repr any all divmod Exception ValueError TypeError KeyError IndexError LookupError ZeroDivisionError "
    "ArithmeticError OverflowError RuntimeError NotImplementedError AttributeError StopIteration"
).split()

# L17: words that stand nowhere.
WORDS = (
    "type typing typing_extensions enum Enum IntEnum StrEnum Flag IntFlag Generic Protocol ABC ABCMeta namedtuple "
    "NamedTuple TypedDict TYPE_CHECKING abstractmethod register mro elements open input"
).split()

# L25: the methods of Python's own values.
METHODS = (
    "append clear copy count endswith extend find get index insert isalnum isalpha isdigit islower isspace isupper "
    "items join keys ljust lower lstrip partition pop remove replace reverse rfind rjust rpartition rsplit rstrip "
    "setdefault split splitlines startswith strip update upper values zfill bit_length"
).split()


def files():
    return sorted(name for name in os.listdir(FOLDER) if name != "__pycache__")


def text_of(name):
    with open(os.path.join(FOLDER, name), encoding="utf-8") as file:
        return file.read()


def nodes_of(name):
    return list(ast.walk(ast.parse(text_of(name))))


def defined_in(name):
    return [node.name for node in ast.parse(text_of(name)).body if isinstance(node, (ast.FunctionDef, ast.ClassDef))]


def drawn_from(name):
    return {node.module.split(".")[1] + ".py" for node in nodes_of(name) if isinstance(node, ast.ImportFrom)}


class Language(unittest.TestCase):
    def test_files(self):
        self.assertIn("__init__.py", files())
        for name in files():
            self.assertRegex(name, r"^(__init__|[a-z][a-z0-9_]*)\.py$")

    def test_signs_and_sizes(self):
        for name in files():
            text = text_of(name)
            self.assertRegex(text, r"\A[\n -~]*\Z")
            rows = text.split("\n")
            self.assertLessEqual(len(rows), 400)
            self.assertLessEqual(max(len(row) for row in rows), 120)
            for node in nodes_of(name):
                if isinstance(node, ast.FunctionDef):
                    self.assertLessEqual(node.end_lineno - node.lineno + 1, 40)

    def test_words(self):
        for name in files():
            self.assertEqual([word for word in re.findall(r"\w+", text_of(name)) if word in WORDS], [])

    def test_nodes(self):
        for name in files():
            for node in nodes_of(name):
                self.assertIn(node.__class__.__name__, NODES)
                if isinstance(node, ast.Constant):
                    self.assertIn(node.value.__class__, (int, str, bool, None.__class__))
                if isinstance(node, ast.Assign):
                    self.assertEqual(len(node.targets), 1)

    def test_names(self):
        for name in files():
            for node in nodes_of(name):
                if isinstance(node, ast.Name):
                    self.assertFalse(node.id.startswith("_"))
                    self.assertTrue(node.id in OWN or not hasattr(builtins, node.id))
                    if isinstance(node.ctx, ast.Store):
                        self.assertFalse(hasattr(builtins, node.id))
                if isinstance(node, ast.arg):
                    self.assertFalse(hasattr(builtins, node.arg) or node.arg.startswith("_"))

    def test_imports(self):
        for name in files():
            for node in nodes_of(name):
                self.assertNotIsInstance(node, ast.Import)
                if isinstance(node, ast.ImportFrom):
                    self.assertEqual(node.level, 0)
                    self.assertRegex(node.module, r"^deepspot\.[a-z]+$")
                    self.assertIn(node.module.split(".")[1] + ".py", files())

    def test_each_name_is_drawn_from_where_it_is_defined(self):
        for name in files():
            for node in nodes_of(name):
                if isinstance(node, ast.ImportFrom):
                    for alias in node.names:
                        self.assertIn(alias.name, defined_in(node.module.split(".")[1] + ".py"))

    def test_no_two_files_draw_from_one_another(self):
        settled = []
        while len(settled) < len(files()):
            ready = [name for name in files() if name not in settled and drawn_from(name) <= set(settled)]
            self.assertNotEqual(ready, [])
            settled += ready

    def test_the_top_of_a_file(self):
        for name in files():
            body = ast.parse(text_of(name)).body
            self.assertTrue(isinstance(body[0], ast.Expr) and isinstance(body[0].value.value, str))
            for node in body[1:]:
                self.assertIsInstance(node, (ast.ImportFrom, ast.FunctionDef, ast.ClassDef, ast.Assign))
            self.assertEqual(len(set(defined_in(name))), len(defined_in(name)))

    def test_locals_hide_no_import_and_no_class(self):
        for name in files():
            taken = [alias.name for node in nodes_of(name) if isinstance(node, ast.ImportFrom) for alias in node.names]
            taken += [node.name for node in nodes_of(name) if isinstance(node, ast.ClassDef)]
            for node in nodes_of(name):
                if isinstance(node, ast.arg):
                    self.assertNotIn(node.arg, taken)
                if isinstance(node, ast.Name) and isinstance(node.ctx, ast.Store):
                    self.assertNotIn(node.id, taken)

    def test_methods(self):
        for name in files():
            for node in nodes_of(name):
                if isinstance(node, ast.Attribute):
                    self.assertIn(node.attr, METHODS)

    def test_is_stands_beside_none_and_truths(self):
        for name in files():
            for node in nodes_of(name):
                if isinstance(node, ast.Compare) and isinstance(node.ops[0], (ast.Is, ast.IsNot)):
                    self.assertIn(node.comparators[0].value, (None, True, False))

    def test_comprehensions(self):
        for name in files():
            for node in nodes_of(name):
                if isinstance(node, ast.ListComp):
                    self.assertEqual(len(node.generators), 1)
                    self.assertLessEqual(len(node.generators[0].ifs), 1)


if __name__ == "__main__":
    unittest.main()
