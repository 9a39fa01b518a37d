"""The package keeps to its part of Python, and so has no clock, no chance and no files at hand."""

import ast
import builtins
import pathlib
import re
import unittest

FOLDER = pathlib.Path(__file__).resolve().parent.parent / "slipseen"

NODES = """Module Expr Constant ImportFrom alias FunctionDef arguments arg ClassDef Assign AugAssign If While For Return
Break Continue Pass Raise Try ExceptHandler Call Name Load Store Attribute Subscript Slice List Tuple Dict ListComp
comprehension BinOp UnaryOp BoolOp Compare IfExp Lambda JoinedStr FormattedValue Add Sub Mult FloorDiv Mod Pow BitAnd
BitOr BitXor LShift RShift Invert Not USub UAdd And Or Eq NotEq Lt LtE Gt GtE Is IsNot In NotIn keyword""".split()

NAMES = """len range enumerate zip min max sum abs sorted reversed int str bool list tuple dict isinstance ord repr any
all divmod ValueError KeyError IndexError LookupError ZeroDivisionError""".split()

METHODS = """append clear copy count endswith extend find get index insert isalnum isalpha isdigit islower isspace
isupper items join keys ljust lower lstrip partition pop remove replace reverse rfind rjust rpartition rsplit rstrip
setdefault split splitlines startswith strip update upper values zfill bit_length""".split()

WORDS = """type typing typing_extensions enum Enum IntEnum StrEnum Flag IntFlag Generic Protocol ABC ABCMeta namedtuple
NamedTuple TypedDict TYPE_CHECKING abstractmethod""".split()


def files():
    return sorted(path for path in FOLDER.rglob("*") if "__pycache__" not in path.parts)


def defined(tree):
    names = []
    for node in ast.walk(tree):
        if isinstance(node, (ast.FunctionDef, ast.ClassDef)):
            names.append(node.name)
        elif isinstance(node, ast.arg):
            names.append(node.arg)
        elif isinstance(node, ast.alias):
            names.append(node.asname or node.name)
        elif isinstance(node, ast.Name) and isinstance(node.ctx, ast.Store):
            names.append(node.id)
    return names


class Language(unittest.TestCase):
    def each(self):
        for path in files():
            with self.subTest(path.name):
                text = path.read_text(encoding="ascii")
                yield path, text, ast.parse(text)

    def test_files(self):
        for path in files():
            self.assertRegex(path.name, r"\A[a-z0-9_]+\.py\Z")

    def test_signs_and_sizes(self):
        for _, text, tree in self.each():
            self.assertRegex(text, r"\A[ -~\n]*\Z")
            self.assertLessEqual(max(len(line) for line in text.split("\n")), 120)
            self.assertLessEqual(text.count("\n"), 400)
            for node in ast.walk(tree):
                if isinstance(node, ast.FunctionDef):
                    self.assertLessEqual(node.end_lineno - node.lineno, 39)
                    self.assertEqual(node.decorator_list, [])

    def test_words(self):
        for _, text, _ in self.each():
            self.assertEqual([word for word in re.findall(r"\w+", text) if word in WORDS], [])
            self.assertIsNone(re.search("dataclass|overload|contextmanager", text))

    def test_statements_and_expressions(self):
        for _, _, tree in self.each():
            for node in ast.walk(tree):
                self.assertIn(node.__class__.__name__, NODES)
                if isinstance(node, ast.Assign):
                    self.assertEqual([target.__class__ for target in node.targets if isinstance(target, ast.Tuple)], [])
                    self.assertEqual(len(node.targets), 1)
                if isinstance(node, ast.Constant):
                    self.assertIn(node.value.__class__, (int, str, bool, None.__class__))

    def test_imports(self):
        drawn = {}
        for path, _, tree in self.each():
            drawn[path.stem] = []
            for node in ast.walk(tree):
                if isinstance(node, ast.ImportFrom):
                    self.assertRegex(node.module, r"\Aslipseen\.[a-z]+\Z")
                    self.assertEqual(node.level, 0)
                    source = ast.parse((FOLDER / (node.module.split(".")[1] + ".py")).read_text())
                    own = [other for other in source.body if not isinstance(other, ast.ImportFrom)]
                    tops = defined(ast.Module(body=own, type_ignores=[]))
                    self.assertEqual([alias.name for alias in node.names if alias.name not in tops], [])
                    drawn[path.stem].append(node.module.split(".")[1])
        while drawn:
            free = [name for name in drawn if not [other for other in drawn[name] if other in drawn]]
            self.assertNotEqual(free, [], "files that draw from one another")
            for name in free:
                del drawn[name]

    def test_names(self):
        for _, _, tree in self.each():
            own = defined(tree)
            for name in own:
                self.assertRegex(name, r"\A[A-Za-z][A-Za-z0-9_]*\Z")
                self.assertFalse(hasattr(builtins, name), name)
            for node in ast.walk(tree):
                if isinstance(node, ast.Name):
                    self.assertIn(node.id, own + NAMES)
                if isinstance(node, ast.Attribute):
                    self.assertIn(node.attr, METHODS)


if __name__ == "__main__":
    unittest.main()
