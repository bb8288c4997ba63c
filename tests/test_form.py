"""The form of the package's files: what of ../shared/LANGUAGE.md is easily told by looking at them."""

import ast
import builtins
import pathlib
import re
import unittest

PACKAGE = pathlib.Path(__file__).resolve().parent.parent / "markrun"

# L6, L7
NODES = (
    ast.With, ast.Match, ast.Delete, ast.Global, ast.Nonlocal, ast.Assert, ast.Yield, ast.YieldFrom, ast.Await,
    ast.AsyncFunctionDef, ast.AsyncFor, ast.AsyncWith, ast.SetComp, ast.DictComp, ast.GeneratorExp,
    ast.NamedExpr, ast.Starred, ast.Div, ast.Import,
)
# L8, without chr (L27) and print
OWN = (
    "len range enumerate zip min max sum abs sorted reversed int str bool list tuple dict set frozenset isinstance ord"
    " repr any all divmod Exception ValueError TypeError KeyError IndexError LookupError ZeroDivisionError"
    " ArithmeticError OverflowError RuntimeError NotImplementedError AttributeError StopIteration"
).split()
# L17
WORDS = (
    "type typing typing_extensions enum Enum IntEnum StrEnum Flag IntFlag Generic Protocol ABC ABCMeta namedtuple"
    " NamedTuple TypedDict TYPE_CHECKING abstractmethod"
).split()
PARTS = ("dataclass", "overload", "contextmanager")


def sources():
    """Pairs of each file of the package and its text."""
    files = sorted(file for file in PACKAGE.iterdir() if file.name != "__pycache__")
    return [(file, file.read_bytes().decode("utf-8")) for file in files]


class Form(unittest.TestCase):
    def test_files(self):
        self.assertIn("__init__.py", [file.name for file, text in sources()])
        for file, text in sources():
            self.assertRegex(file.name, r"^(__init__|[a-z][a-z0-9_]*)\.py$")

    def test_signs_and_sizes(self):
        for file, text in sources():
            rows = text.split("\n")
            self.assertLessEqual(len(rows), 401, file.name)
            self.assertLessEqual(max(len(row) for row in rows), 120, file.name)
            self.assertRegex(text, r"\A[ -~\n]*\Z", file.name)
            for node in ast.walk(ast.parse(text)):
                if isinstance(node, ast.FunctionDef):
                    self.assertLessEqual(node.end_lineno - node.lineno + 1, 40, f"{file.name} {node.name}")

    def test_words_that_stand_nowhere(self):
        for file, text in sources():
            met = [word for word in re.findall(r"\w+", text) if word in WORDS or any(part in word for part in PARTS)]
            self.assertEqual(met, [], file.name)

    def test_imports_are_of_the_very_files_that_define_the_names(self):
        for file, text in sources():
            for node in ast.walk(ast.parse(text)):
                if isinstance(node, ast.ImportFrom):
                    self.assertRegex(node.module, r"^markrun\.[a-z][a-z0-9_]*$", file.name)
                    self.assertEqual(node.level, 0, file.name)
                    drawn = ast.parse((PACKAGE / (node.module.partition(".")[2] + ".py")).read_text())
                    for alias in node.names:
                        self.assertIn(alias.name, top_names(drawn), file.name)

    def test_statements_and_expressions(self):
        for file, text in sources():
            for node in ast.walk(ast.parse(text)):
                where = f"{file.name} {getattr(node, 'lineno', '')}"
                self.assertNotIsInstance(node, NODES, where)
                self.assertFalse(getattr(node, "decorator_list", []), where)
                if isinstance(node, (ast.For, ast.While)):
                    self.assertEqual(node.orelse, [], where)
                if isinstance(node, ast.Constant):
                    self.assertNotIsInstance(node.value, (float, complex, bytes), where)
                    self.assertNotIn("%", str(node.value), where)

    def test_names(self):
        for file, text in sources():
            for node in ast.walk(ast.parse(text)):
                if isinstance(node, ast.Name):
                    where = f"{file.name} {node.lineno} {node.id}"
                    self.assertFalse(node.id.startswith("_"), where)
                    self.assertTrue(node.id in OWN or not hasattr(builtins, node.id), where)


def top_names(tree):
    names = [node.name for node in tree.body if isinstance(node, (ast.FunctionDef, ast.ClassDef))]
    for node in tree.body:
        if isinstance(node, ast.Assign):
            names.append(node.targets[0].id)
    return names


if __name__ == "__main__":
    unittest.main()
