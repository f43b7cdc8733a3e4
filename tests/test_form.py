"""The form of the package's files: what of the language's rules can be read off them."""

import ast
import pathlib
import re
import unittest

PACKAGE = pathlib.Path(__file__).resolve().parent.parent / "openlanes"

NODES = (
    "Module FunctionDef ClassDef arguments arg Lambda Return Assign AugAssign AnnAssign For While If Raise Try "
    "ExceptHandler ImportFrom alias Expr Pass Break Continue BoolOp BinOp UnaryOp IfExp Dict Set ListComp "
    "comprehension Compare Call JoinedStr FormattedValue Constant Attribute Subscript Slice Name List Tuple keyword "
    "Load Store And Or Not USub UAdd Invert Add Sub Mult FloorDiv Mod Pow LShift RShift BitOr BitXor BitAnd "
    "Eq NotEq Lt LtE Gt GtE Is IsNot In NotIn"
).split()

PYTHONS_OWN = (
    "len range enumerate zip min max sum abs sorted reversed int str bool list tuple dict set frozenset isinstance "
    "ord repr any all divmod Exception ValueError TypeError KeyError IndexError LookupError ZeroDivisionError "
    "ArithmeticError OverflowError RuntimeError NotImplementedError AttributeError StopIteration"
).split()

METHODS = (
    "append clear copy count endswith extend find get index insert isalnum isalpha isdigit islower isspace isupper "
    "items join keys ljust lower lstrip partition pop remove replace reverse rfind rjust rpartition rsplit rstrip "
    "setdefault split splitlines startswith strip update upper values zfill bit_length"
).split()

NEVER_NAMES = (
    "register mro elements open input version_info with_traceback add_note attrgetter breakpoint builtins compile "
    "copyright credits delattr dir eval exec exit gc getattr globals hasattr help id importlib license locals "
    "methodcaller os quit setattr super type vars sys hash next map filter print object float bytes chr"
).split()

NEVER_WORDS = (
    r"\b(type|typing|typing_extensions|enum|Enum|IntEnum|StrEnum|Flag|IntFlag|Generic|Protocol|ABC|ABCMeta|namedtuple"
    r"|NamedTuple|TypedDict|TYPE_CHECKING|abstractmethod)\b|dataclass|overload|contextmanager"
)

TWO_UNDERSCORES = ("__init__", "__eq__", "__repr__", "__str__", "__len__")


def files():
    return sorted(PACKAGE.glob("*.py"))


def nodes():
    for file in files():
        for node in ast.walk(ast.parse(file.read_text(encoding="ascii"))):
            yield file.name, node


def names_of(node):
    if isinstance(node, ast.Name):
        return [node.id]
    if isinstance(node, ast.Attribute):
        return [node.attr]
    if isinstance(node, ast.arg):
        return [node.arg]
    if isinstance(node, (ast.FunctionDef, ast.ClassDef)):
        return [node.name]
    return []


class FilesOfThePackage(unittest.TestCase):
    def test_only_python_files_in_one_folder(self):
        found = [path for path in PACKAGE.iterdir() if path.name != "__pycache__"]
        self.assertEqual(sorted(found), files())
        for path in found:
            self.assertTrue(path.is_file())
            self.assertRegex(path.name, r"^([a-z][a-z0-9_]*|__init__)\.py$")
        self.assertIn(PACKAGE / "patrol.py", found)
        self.assertIn(PACKAGE / "__init__.py", found)

    def test_signs_and_sizes(self):
        for file in files():
            text = file.read_bytes().decode("ascii")
            with self.subTest(file=file.name):
                self.assertRegex(text, r"\A[ -~\n]*\Z")
                self.assertLessEqual(len(text.splitlines()), 399)
                self.assertLessEqual(max(len(line) for line in text.splitlines()), 120)
                self.assertIsNone(re.search(NEVER_WORDS, text))

    def test_each_file_says_what_it_is(self):
        for file in files():
            self.assertIsNotNone(ast.get_docstring(ast.parse(file.read_text(encoding="ascii"))), file.name)


class CodeOfThePackage(unittest.TestCase):
    def test_statements_and_expressions(self):
        for name, node in nodes():
            kind = node.__class__.__name__
            self.assertIn(kind, NODES, (name, getattr(node, "lineno", 0)))
            if isinstance(node, ast.Constant):
                self.assertIn(node.value.__class__, (int, str, bool, None.__class__), (name, node.lineno))
            if isinstance(node, ast.Assign):
                self.assertEqual(len(node.targets), 1, (name, node.lineno))
            if isinstance(node, (ast.For, ast.While)):
                self.assertEqual(node.orelse, [], (name, node.lineno))
            if isinstance(node, ast.ListComp):
                self.assertEqual(len(node.generators), 1, (name, node.lineno))
                self.assertLessEqual(len(node.generators[0].ifs), 1, (name, node.lineno))

    def test_functions_and_classes(self):
        for name, node in nodes():
            if isinstance(node, (ast.FunctionDef, ast.ClassDef)):
                self.assertEqual(node.decorator_list, [], (name, node.name))
            if isinstance(node, ast.FunctionDef):
                self.assertLessEqual(node.end_lineno - node.lineno + 1, 40, (name, node.name))
                given = node.args
                self.assertEqual((given.vararg, given.kwarg, given.kwonlyargs, given.posonlyargs), (None, None, [], []))
            if isinstance(node, ast.ClassDef):
                for part in node.body:
                    is_text = isinstance(part, ast.Expr) and isinstance(part.value, ast.Constant)
                    self.assertTrue(is_text or isinstance(part, ast.FunctionDef), (name, node.name))

    def test_imports(self):
        modules = ["openlanes." + file.stem for file in files()]
        for name, node in nodes():
            if isinstance(node, ast.ImportFrom):
                self.assertEqual(node.level, 0)
                self.assertIn(node.module, modules)
                self.assertNotIn("*", [part.name for part in node.names])

    def test_no_two_files_draw_from_one_another(self):
        drawn = {"openlanes." + file.stem: set() for file in files()}
        for name, node in nodes():
            if isinstance(node, ast.ImportFrom):
                drawn["openlanes." + name[:-3]].add(node.module)
        while drawn:
            ready = [module for module in drawn if not drawn[module] & set(drawn)]
            self.assertNotEqual(ready, [], drawn)
            for module in ready:
                del drawn[module]

    def test_names(self):
        builtin = vars(__builtins__) if not isinstance(__builtins__, dict) else __builtins__
        for name, node in nodes():
            for word in names_of(node):
                place = (name, word, node.lineno)
                self.assertNotIn(word, NEVER_NAMES, place)
                if word not in TWO_UNDERSCORES:
                    self.assertRegex(word, r"^[A-Za-z][A-Za-z0-9_]*$", place)
                if word in builtin and not isinstance(node, ast.Attribute):
                    self.assertIn(word, PYTHONS_OWN, place)
                    self.assertTrue(isinstance(node, ast.Name) and isinstance(node.ctx, ast.Load), place)

    def test_methods(self):
        own = [node.name for name, node in nodes() if isinstance(node, ast.FunctionDef)]
        for name, node in nodes():
            if isinstance(node, ast.Call) and isinstance(node.func, ast.Attribute):
                self.assertIn(node.func.attr, METHODS + own, (name, node.lineno))

    def test_each_name_is_bound_once_at_the_top(self):
        for file in files():
            bound = []
            for node in ast.parse(file.read_text(encoding="ascii")).body:
                if isinstance(node, (ast.FunctionDef, ast.ClassDef)):
                    bound.append(node.name)
                elif isinstance(node, ast.ImportFrom):
                    bound.extend(part.asname or part.name for part in node.names)
                elif isinstance(node, ast.Assign):
                    bound.append(node.targets[0].id)
            self.assertEqual(sorted(bound), sorted(set(bound)), file.name)

    def test_the_interface_stands_in_its_file_alone(self):
        where = []
        for file in files():
            for node in ast.parse(file.read_text(encoding="ascii")).body:
                if isinstance(node, (ast.FunctionDef, ast.ClassDef)) and node.name == "answers":
                    where.append((file.name, [given.arg for given in node.args.args], len(node.args.defaults)))
        self.assertEqual(where, [("patrol.py", ["calls"], 0)])


if __name__ == "__main__":
    unittest.main()
