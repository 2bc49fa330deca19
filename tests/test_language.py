"""The plainest of the rules of ../shared/LANGUAGE.md, held against the package."""

import ast
import os
import re
import unittest

PACKAGE = os.path.join(os.path.dirname(os.path.dirname(os.path.abspath(__file__))), "whatindex")
BARRED = (
    "type typing typing_extensions enum Enum IntEnum StrEnum Flag IntFlag Generic Protocol ABC "
    "ABCMeta namedtuple NamedTuple TypedDict TYPE_CHECKING abstractmethod"
).split()
BARRED_PARTS = ("dataclass", "overload", "contextmanager")
BUILTINS = (
    "len range enumerate zip min max sum abs sorted reversed int str bool bytes list tuple dict set "
    "frozenset isinstance ord repr any all divmod super property staticmethod classmethod Exception "
    "ValueError TypeError KeyError IndexError LookupError ZeroDivisionError ArithmeticError "
    "OverflowError RuntimeError NotImplementedError AttributeError StopIteration NotImplemented"
).split()
TAKES_LISTS = ("any", "all", "min", "max", "sum", "sorted")
ALL_BUILTINS = tuple(vars(__builtins__) if not isinstance(__builtins__, dict) else __builtins__)


def sources():
    for name in sorted(os.listdir(PACKAGE)):
        if name != "__pycache__":
            with open(os.path.join(PACKAGE, name), encoding="ascii") as file:
                yield name, file.read()


def nodes(kind):
    for name, text in sources():
        for node in ast.walk(ast.parse(text)):
            if isinstance(node, kind):
                yield name, node


class LanguageTest(unittest.TestCase):
    def test_files(self):
        for name, text in sources():
            self.assertRegex(name, r"^([a-z][a-z0-9_]*|__init__)\.py$")
            self.assertLessEqual(len(text.splitlines()), 400, name)

    def test_lines_and_signs(self):
        for name, text in sources():
            for row in text.splitlines():
                self.assertRegex(row, r"^[ -~]{0,120}$", name)

    def test_barred_words(self):
        for name, text in sources():
            words = re.findall(r"\w+", text)
            self.assertEqual([word for word in words if word in BARRED], [], name)
            for part in BARRED_PARTS:
                self.assertNotIn(part, text, name)

    def test_functions_are_short(self):
        for name, node in nodes(ast.FunctionDef):
            self.assertLessEqual(node.end_lineno - node.lineno + 1, 40, (name, node.name))

    def test_imports_are_of_the_package(self):
        self.assertEqual(list(nodes(ast.Import)), [])
        for name, node in nodes(ast.ImportFrom):
            self.assertTrue(node.module.startswith("whatindex."), name)
            self.assertEqual(node.level, 0, name)
            self.assertNotIn("*", [each.name for each in node.names], name)

    def test_names_are_plain(self):
        for name, node in nodes((ast.Name, ast.arg, ast.Attribute)):
            word = getattr(node, "id", None) or getattr(node, "arg", None) or node.attr
            if word != "__init__":
                self.assertFalse(word.startswith("_"), (name, word))

    def test_other_builtins_are_not_used(self):
        for name, node in nodes(ast.Name):
            if node.id in ALL_BUILTINS:
                self.assertIn(node.id, BUILTINS, name)

    def test_builtins_keep_their_meaning(self):
        for name, node in nodes(ast.Name):
            if isinstance(node.ctx, ast.Store):
                self.assertNotIn(node.id, ALL_BUILTINS, name)
        for name, node in nodes(ast.arg):
            self.assertNotIn(node.arg, ALL_BUILTINS, name)

    def test_strings_and_numbers(self):
        for name, node in nodes(ast.Constant):
            self.assertNotIsInstance(node.value, float, name)
            if isinstance(node.value, str):
                self.assertNotIn("\x25", node.value, name)

    def test_no_generators_beside_an_eq(self):
        for name, node in nodes(ast.Call):
            if isinstance(node.func, ast.Name) and node.func.id in TAKES_LISTS:
                for thing in node.args:
                    self.assertNotIsInstance(thing, ast.GeneratorExp, (name, node.lineno))

    def test_is_only_beside_none_and_truths(self):
        for name, node in nodes(ast.Compare):
            for sign, thing in zip(node.ops, node.comparators):
                if isinstance(sign, (ast.Is, ast.IsNot)):
                    self.assertIsInstance(thing, ast.Constant, (name, node.lineno))
                    self.assertIn(thing.value, (None, True, False), (name, node.lineno))

    def test_no_name_is_a_method_here_and_an_attribute_there(self):
        methods = set()
        for _, node in nodes(ast.ClassDef):
            methods |= {each.name for each in node.body if isinstance(each, ast.FunctionDef)}
        for name, node in nodes(ast.Attribute):
            if isinstance(node.ctx, ast.Store):
                self.assertNotIn(node.attr, methods, (name, node.lineno))


if __name__ == "__main__":
    unittest.main()
