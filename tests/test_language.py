"""The rules of the language that a look at the files of the package can check."""

import ast
import builtins
import pathlib
import re
import unittest

import fullseats

PACKAGE = pathlib.Path(fullseats.__file__).parent
BUILTINS = """
    len range enumerate zip min max sum abs sorted reversed int str bool bytes list tuple dict set frozenset isinstance
    ord repr any all divmod Exception ValueError TypeError KeyError IndexError LookupError ZeroDivisionError
    ArithmeticError OverflowError RuntimeError NotImplementedError AttributeError StopIteration NotImplemented iter
    next property staticmethod classmethod super
""".split()
WORDS = re.compile(
    r"\b(type|typing|typing_extensions|enum|Enum|IntEnum|StrEnum|Flag|IntFlag|Generic|Protocol|ABC|ABCMeta|namedtuple"
    r"|NamedTuple|TypedDict|TYPE_CHECKING|abstractmethod)\b|dataclass|overload|contextmanager"
)
UNUSED = ["register", "mro", "elements", "open", "input", "law", "version_info", "with_traceback", "add_note"]
NAME = re.compile(r"[A-Za-z][A-Za-z0-9_]*|__[a-z]+__")


def files():
    """The files of the package with their texts."""
    return [(path.relative_to(PACKAGE).as_posix(), path.read_text("utf-8")) for path in sorted(PACKAGE.rglob("*.py"))]


def nodes(kinds):
    """All nodes of these kinds, each with its file."""
    return [(name, node) for name, text in files() for node in ast.walk(ast.parse(text)) if isinstance(node, kinds)]


def own_names():
    """All names that the package binds or uses, with their files."""
    found = []
    for name, node in nodes((ast.Name, ast.Attribute, ast.arg, ast.FunctionDef, ast.ClassDef, ast.keyword)):
        for field in ("id", "attr", "arg", "name"):
            if getattr(node, field, None) is not None:
                found.append((name, getattr(node, field)))
    return found


class Language(unittest.TestCase):
    def test_the_folder_contains_nothing_but_files_of_the_program(self):
        others = [path for path in PACKAGE.rglob("*") if path.is_file() and "__pycache__" not in path.parts]
        self.assertEqual([path.name for path in others if not re.fullmatch(r"[a-z0-9_]+\.py", path.name)], [])

    def test_size_and_characters(self):
        for name, text in files():
            lines = text.split("\n")
            with self.subTest(name=name):
                self.assertLess(len(lines), 400)
                self.assertLessEqual(max(len(line) for line in lines), 120)
                self.assertEqual([sign for sign in text if not (" " <= sign <= "~" or sign == "\n")], [])

    def test_functions_are_short(self):
        for name, node in nodes(ast.FunctionDef):
            with self.subTest(name=name, function=node.name):
                self.assertLessEqual(node.end_lineno - node.lineno + 1, 40)

    def test_imports_come_from_the_package(self):
        self.assertEqual(nodes(ast.Import), [])
        for name, node in nodes(ast.ImportFrom):
            with self.subTest(name=name, line=node.lineno):
                self.assertRegex(node.module, r"^fullseats\.[a-z_]+$")
                self.assertEqual(node.level, 0)
                self.assertNotIn("*", [alias.name for alias in node.names])

    def test_words(self):
        for name, text in files():
            with self.subTest(name=name):
                self.assertIsNone(WORDS.search(text))

    def test_names(self):
        for name, used in own_names():
            with self.subTest(name=name, used=used):
                self.assertIsNotNone(NAME.fullmatch(used))
                self.assertNotIn(used, UNUSED)
        for name, node in nodes(ast.Name):
            if hasattr(builtins, node.id):
                with self.subTest(name=name, line=node.lineno):
                    self.assertIn(node.id, BUILTINS)

    def test_decorators(self):
        for name, node in nodes((ast.FunctionDef, ast.ClassDef)):
            for decorator in node.decorator_list:
                with self.subTest(name=name, line=node.lineno):
                    plain = ast.unparse(decorator)
                    self.assertRegex(plain, r"^(staticmethod|classmethod|property|[a-z]+\.setter)$")

    def test_is_stands_beside_none_true_and_false(self):
        for name, node in nodes(ast.Compare):
            for operator, right in zip(node.ops, node.comparators):
                if isinstance(operator, (ast.Is, ast.IsNot)):
                    with self.subTest(name=name, line=node.lineno):
                        self.assertIn(ast.unparse(right), ("None", "True", "False"))

    def test_strings_contain_no_percent_sign(self):
        for name, node in nodes(ast.Constant):
            if isinstance(node.value, str):
                with self.subTest(name=name, line=node.lineno):
                    self.assertNotIn("%", node.value)

    def test_no_name_is_a_method_and_an_attribute(self):
        methods = set()
        for name, node in nodes(ast.ClassDef):
            methods.update([part.name for part in node.body if isinstance(part, ast.FunctionDef)])
        stored = [node.attr for name, node in nodes(ast.Attribute) if isinstance(node.ctx, ast.Store)]
        self.assertEqual(sorted(methods & set(stored)), [])


if __name__ == "__main__":
    unittest.main()
