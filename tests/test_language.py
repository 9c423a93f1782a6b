"""The rules of the language that a look at the files of the package can check."""

import ast
import builtins
import pathlib
import re
import unittest

import fullseats

PACKAGE = pathlib.Path(fullseats.__file__).parent
BUILTINS = """
    len range enumerate zip min max sum abs sorted reversed int str bool bytes list tuple dict set frozenset isinstance
    ord repr any all divmod Exception ValueError TypeError KeyError IndexError LookupError ZeroDivisionError
    ArithmeticError OverflowError RuntimeError NotImplementedError AttributeError StopIteration NotImplemented iter
    next property staticmethod classmethod super
""".split()
WORDS = re.compile(
    r"\b(type|typing|typing_extensions|enum|Enum|IntEnum|StrEnum|Flag|IntFlag|Generic|Protocol|ABC|ABCMeta|namedtuple"
    r"|NamedTuple|TypedDict|TYPE_CHECKING|abstractmethod)\b|dataclass|overload|contextmanager"
)
# The methods of builtin values that may be called.
METHODS = """
    append clear copy count endswith extend find get index insert isalnum isalpha isdigit islower isspace isupper
    items join keys ljust lower lstrip partition pop remove replace reverse rfind rjust rpartition rsplit rstrip
    setdefault split splitlines startswith strip update upper values zfill bit_length title capitalize swapcase
    casefold center expandtabs removeprefix removesuffix rindex isascii isdecimal isnumeric istitle isidentifier
    isprintable
""".split()
FREE_ATTRIBUTES = ["count", "index", "title", "find", "get", "join", "lower", "upper", "split", "strip", "copy", "add"]
UNUSED = ["register", "mro", "elements", "open", "input", "law", "version_info", "with_traceback", "add_note"]
NAME = re.compile(r"[A-Za-z][A-Za-z0-9_]*|__[a-z]+__")


def files():
    """The files of the package with their texts."""
    return [(path.relative_to(PACKAGE).as_posix(), path.read_text("utf-8")) for path in sorted(PACKAGE.rglob("*.py"))]


def nodes(kinds):
    """All nodes of these kinds, each with its file."""
    return [(name, node) for name, text in files() for node in ast.walk(ast.parse(text)) if isinstance(node, kinds)]


def own_names():
    """All names that the package binds or uses, with their files."""
    found = []
    for name, node in nodes((ast.Name, ast.Attribute, ast.arg, ast.FunctionDef, ast.ClassDef, ast.keyword)):
        for field in ("id", "attr", "arg", "name"):
            if getattr(node, field, None) is not None:
                found.append((name, getattr(node, field)))
    return found


def own_methods():
    """The names of all methods and properties of the package."""
    return {
        part.name for name, node in nodes(ast.ClassDef) for part in node.body if isinstance(part, ast.FunctionDef)
    }


def stored_attributes():
    """The names of all attributes that the package assigns."""
    return {node.attr for name, node in nodes(ast.Attribute) if isinstance(node.ctx, ast.Store)}


def of_builtin_values():
    """The names of the methods and attributes of builtin values, but for those with double underscores."""
    return {name for kind in (str, int, list, dict, set, bytes) for name in dir(kind) if not name.startswith("__")}


class Language(unittest.TestCase):
    def test_the_folder_contains_nothing_but_files_of_the_program(self):
        others = [path for path in PACKAGE.rglob("*") if path.is_file() and "__pycache__" not in path.parts]
        self.assertEqual([path.name for path in others if not re.fullmatch(r"[a-z0-9_]+\.py", path.name)], [])

    def test_size_and_characters(self):
        for name, text in files():
            lines = text.split("\n")
            with self.subTest(name=name):
                self.assertLess(len(lines), 400)
                self.assertLessEqual(max(len(line) for line in lines), 120)
                self.assertEqual([sign for sign in text if not (" " <= sign <= "~" or sign == "\n")], [])

    def test_functions_are_short(self):
        for name, node in nodes(ast.FunctionDef):
            with self.subTest(name=name, function=node.name):
                self.assertLessEqual(node.end_lineno - node.lineno + 1, 40)

    def test_imports_come_from_the_package(self):
        self.assertEqual(nodes(ast.Import), [])
        for name, node in nodes(ast.ImportFrom):
            with self.subTest(name=name, line=node.lineno):
                self.assertRegex(node.module, r"^fullseats\.[a-z_]+$")
                self.assertEqual(node.level, 0)
                self.assertNotIn("*", [alias.name for alias in node.names])

    def test_words(self):
        for name, text in files():
            with self.subTest(name=name):
                self.assertIsNone(WORDS.search(text))

    def test_names(self):
        for name, used in own_names():
            with self.subTest(name=name, used=used):
                self.assertIsNotNone(NAME.fullmatch(used))
                self.assertNotIn(used, UNUSED)
        for name, node in nodes(ast.Name):
            if hasattr(builtins, node.id):
                with self.subTest(name=name, line=node.lineno):
                    self.assertIn(node.id, BUILTINS)

    def test_decorators(self):
        for name, node in nodes((ast.FunctionDef, ast.ClassDef)):
            for decorator in node.decorator_list:
                with self.subTest(name=name, line=node.lineno):
                    plain = ast.unparse(decorator)
                    self.assertRegex(plain, r"^(staticmethod|classmethod|property|[a-z]+\.setter)$")

    def test_is_stands_beside_none_true_and_false(self):
        for name, node in nodes(ast.Compare):
            for operator, right in zip(node.ops, node.comparators):
                if isinstance(operator, (ast.Is, ast.IsNot)):
                    with self.subTest(name=name, line=node.lineno):
                        self.assertIn(ast.unparse(right), ("None", "True", "False"))

    def test_strings_contain_no_percent_sign(self):
        for name, node in nodes(ast.Constant):
            if isinstance(node.value, str):
                with self.subTest(name=name, line=node.lineno):
                    self.assertNotIn("%", node.value)

    def test_no_name_is_a_method_and_an_attribute(self):
        self.assertEqual(sorted(own_methods() & stored_attributes()), [])

    def test_names_of_methods_and_attributes(self):
        taken = of_builtin_values()
        self.assertEqual(sorted((own_methods() & taken) - set(METHODS)), [])
        self.assertEqual(sorted((stored_attributes() & taken) - set(FREE_ATTRIBUTES)), [])
        for name, node in nodes(ast.FunctionDef):
            self.assertNotIn(node.name, METHODS)

    def test_every_method_that_is_called_is_an_own_one_or_allowed(self):
        allowed = own_methods() | {"policy", "__init__"} | set(METHODS)
        for name, node in nodes(ast.Call):
            if isinstance(node.func, ast.Attribute):
                with self.subTest(name=name, line=node.lineno):
                    self.assertIn(node.func.attr, allowed)

    def test_every_attribute_that_is_read_is_assigned(self):
        known = own_methods() | stored_attributes() | {"ROOM", "setter", "__init__"} | set(METHODS)
        self.assertEqual([node.attr for name, node in nodes(ast.Attribute) if node.attr not in known], [])

    def test_module_level(self):
        for name, text in files():
            bound = []
            for node in ast.parse(text).body:
                with self.subTest(name=name, line=node.lineno):
                    self.assertIsInstance(node, (ast.Expr, ast.ImportFrom, ast.FunctionDef, ast.ClassDef, ast.Assign))
                if isinstance(node, ast.ImportFrom):
                    bound += [alias.asname or alias.name for alias in node.names]
                elif isinstance(node, ast.Assign):
                    bound += [target.id for target in node.targets]
                elif not isinstance(node, ast.Expr):
                    bound.append(node.name)
            self.assertEqual(sorted(set(bound)), sorted(bound))

    def test_local_names(self):
        for name, text in files():
            tree = ast.parse(text)
            classes = {node.name for node in ast.walk(tree) if isinstance(node, ast.ClassDef)}
            imported = {alias.name for node in tree.body if isinstance(node, ast.ImportFrom) for alias in node.names}
            for node in ast.walk(tree):
                local = node.arg if isinstance(node, ast.arg) else None
                if isinstance(node, ast.Name) and isinstance(node.ctx, ast.Store):
                    local = node.id
                with self.subTest(name=name, local=local):
                    self.assertNotIn(local, classes | imported)
                    self.assertFalse(local is not None and hasattr(builtins, local))

    def test_no_annotations_and_no_generator_expressions(self):
        self.assertEqual(nodes((ast.AnnAssign, ast.GeneratorExp, ast.Global, ast.AsyncFunctionDef)), [])
        for name, node in nodes(ast.FunctionDef):
            self.assertEqual([node.returns] + [argument.annotation for argument in node.args.args],
                             [None] * (len(node.args.args) + 1))

    def test_no_file_leads_back_to_itself(self):
        imports = {name[:-3]: set() for name, text in files()}
        for name, node in nodes(ast.ImportFrom):
            imports[name[:-3]].add(node.module.split(".")[1])
        while imports:
            free = [name for name in imports if not imports[name] & set(imports)]
            self.assertNotEqual(free, [], msg=sorted(imports))
            for name in free:
                del imports[name]

    def test_only_own_errors_are_caught(self):
        own = {node.name for name, node in nodes(ast.ClassDef) if name == "errors.py"}
        for name, node in nodes(ast.ExceptHandler):
            with self.subTest(name=name, line=node.lineno):
                self.assertIn(ast.unparse(node.type), own)
        for name, node in nodes(ast.Raise):
            if node.exc is not None:
                self.assertIn(ast.unparse(node.exc).split("(")[0], own | {"IndexError"})

    def test_no_string_stands_in_the_braces_of_another(self):
        for name, node in nodes(ast.FormattedValue):
            inner = [part.value for part in ast.walk(node.value) if isinstance(part, ast.Constant)]
            self.assertEqual([value for value in inner if isinstance(value, str)], [])

    def test_generators_are_iterated_at_once(self):
        generators = {
            node.name for name, node in nodes(ast.FunctionDef)
            if any(isinstance(part, (ast.Yield, ast.YieldFrom)) for part in ast.walk(node))
        }
        iterated = {ast.unparse(node.iter) for name, node in nodes((ast.For, ast.comprehension))}
        for name, node in nodes(ast.Call):
            if isinstance(node.func, ast.Name) and node.func.id in generators:
                with self.subTest(name=name, line=node.lineno):
                    self.assertIn(ast.unparse(node), iterated)
                    self.assertTrue(all(isinstance(argument, ast.Name) for argument in node.args))


if __name__ == "__main__":
    unittest.main()
