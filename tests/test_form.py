"""The form of the package's files: what of ../shared/LANGUAGE.md can be told by looking at them.

Where a rule leaves room, the narrower reading is asked for here."""

import ast
import builtins
import pathlib
import re
import unittest

PACKAGE = pathlib.Path(__file__).resolve().parent.parent / "markrun"

# L6
STATEMENTS = (
    ast.FunctionDef, ast.ClassDef, ast.ImportFrom, ast.Assign, ast.AugAssign, ast.If, ast.While, ast.For, ast.Return,
    ast.Break, ast.Continue, ast.Pass, ast.Raise, ast.Try, ast.Expr,
)
# L7
EXPRESSIONS = (
    ast.Constant, ast.List, ast.Tuple, ast.Dict, ast.BinOp, ast.UnaryOp, ast.BoolOp, ast.Compare, ast.IfExp, ast.Call,
    ast.Attribute, ast.Subscript, ast.Slice, ast.Name, ast.ListComp, ast.JoinedStr, ast.FormattedValue,
)
# L8, without chr (L27) and print
OWN = (
    "len range enumerate zip min max sum abs sorted reversed int str bool list tuple dict set frozenset isinstance ord"
    " repr any all divmod Exception ValueError TypeError KeyError IndexError LookupError ZeroDivisionError"
    " ArithmeticError OverflowError RuntimeError NotImplementedError AttributeError StopIteration"
).split()
# L17
WORDS = (
    "type typing typing_extensions enum Enum IntEnum StrEnum Flag IntFlag Generic Protocol ABC ABCMeta namedtuple"
    " NamedTuple TypedDict TYPE_CHECKING abstractmethod"
).split()
PARTS = ("dataclass", "overload", "contextmanager")
NOT_USED = "register mro elements open input version_info with_traceback add_note format format_map".split()
# L25
METHODS = (
    "append clear copy count endswith extend find get index insert isalnum isalpha isdigit islower isspace isupper"
    " items join keys ljust lower lstrip partition pop remove replace reverse rfind rjust rpartition rsplit rstrip"
    " setdefault split splitlines startswith strip update upper values zfill bit_length"
).split()
# L22
KEYWORDS = {
    "sorted": ("key", "reverse"), "min": ("key", "default"), "max": ("key", "default"), "sum": ("start",),
    "enumerate": ("start",), "zip": ("strict",),
}
# L23
WALKED = ("zip", "enumerate", "reversed", "range", "items", "keys", "values")
WALKERS = ("list", "tuple", "dict", "sorted", "sum", "any", "all", "enumerate", "zip", "min", "max", "join")
# L15: how a list or dict of a file's top may be read.
READERS = ("len", "list", "dict", "tuple", "sorted", "enumerate", "zip")
READING = ("get", "items", "keys", "values", "index", "count")
# L26
PYTHONS = {name for kind in (str, int, list, dict, set, bytes, tuple) for name in dir(kind)}


def sources():
    """Pairs of each file of the package and its text."""
    files = sorted(file for file in PACKAGE.iterdir() if file.name != "__pycache__")
    return [(file, file.read_bytes().decode("utf-8")) for file in files]


def trees():
    """Pairs of each file's name and its tree, in which each node knows the one above it."""
    told = []
    for file, text in sources():
        tree = ast.parse(text)
        for node in ast.walk(tree):
            for child in ast.iter_child_nodes(node):
                child.above = node
        told.append((file.name, tree))
    return told


def nodes(*kinds):
    """Each node of these kinds, and the words by which a failure tells it."""
    for name, tree in trees():
        for node in ast.walk(tree):
            if isinstance(node, kinds):
                yield node, f"{name} {getattr(node, 'lineno', '')}"


def top_names(tree):
    names = [node.name for node in tree.body if isinstance(node, (ast.FunctionDef, ast.ClassDef))]
    names.extend(node.targets[0].id for node in tree.body if isinstance(node, ast.Assign))
    return names


def imported(tree):
    return [alias.name for node in tree.body if isinstance(node, ast.ImportFrom) for alias in node.names]


def called(node):
    """The name by which a call calls, also a method's."""
    if not isinstance(node, ast.Call):
        return None
    return node.func.id if isinstance(node.func, ast.Name) else getattr(node.func, "attr", None)


def is_plain(node, functions):
    if isinstance(node, (ast.List, ast.Tuple)):
        return all(is_plain(held, functions) for held in node.elts)
    if isinstance(node, ast.Dict):
        return all(is_plain(held, functions) for held in node.keys + node.values)
    if isinstance(node, ast.Name):
        return node.id in functions
    return isinstance(node, ast.Constant)


class Files(unittest.TestCase):
    def test_names_of_files(self):
        self.assertIn("__init__.py", [file.name for file, text in sources()])
        for file, text in sources():
            self.assertRegex(file.name, r"^(__init__|[a-z][a-z0-9_]*)\.py$")
            self.assertTrue(file.stem == "__init__" or not hasattr(builtins, file.stem), file.name)

    def test_signs_and_sizes(self):
        for file, text in sources():
            rows = text.split("\n")
            self.assertLessEqual(len(rows), 401, file.name)
            self.assertLessEqual(max(len(row) for row in rows), 120, file.name)
            self.assertRegex(text, r"\A[ -~\n]*\Z", file.name)
        for node, where in nodes(ast.FunctionDef):
            self.assertLessEqual(node.end_lineno - node.lineno + 1, 40, where)

    def test_words_that_stand_nowhere(self):
        for file, text in sources():
            met = [word for word in re.findall(r"\w+", text) if word in WORDS or any(part in word for part in PARTS)]
            self.assertEqual(met, [], file.name)

    def test_the_top_holds_plain_values_and_each_name_once(self):
        for name, tree in trees():
            names = top_names(tree) + imported(tree)
            self.assertEqual(len(names), len(set(names)), name)
            functions = []
            for node in tree.body[1:]:
                self.assertIsInstance(node, (ast.ImportFrom, ast.FunctionDef, ast.ClassDef, ast.Assign), name)
                if isinstance(node, ast.FunctionDef):
                    functions.append(node.name)
                if isinstance(node, ast.Assign):
                    self.assertTrue(is_plain(node.value, functions), f"{name} {node.lineno}")
                    self.assert_holds_no_list(node.value, name)

    def assert_holds_no_list(self, value, name):
        inner = [node for node in ast.walk(value) if isinstance(node, (ast.List, ast.Dict)) and node is not value]
        self.assertEqual(inner, [], name)

    def test_imports_are_of_the_very_files_that_define_the_names(self):
        for node, where in nodes(ast.ImportFrom):
            self.assertIsInstance(node.above, ast.Module, where)
            self.assertRegex(node.module, r"^markrun\.[a-z][a-z0-9_]*$", where)
            self.assertEqual(node.level, 0, where)
            drawn = ast.parse((PACKAGE / (node.module.partition(".")[2] + ".py")).read_text())
            for alias in node.names:
                self.assertIn(alias.name, top_names(drawn), where)
                self.assertIsNone(alias.asname, where)

    def test_all_that_is_imported_is_used(self):
        for name, tree in trees():
            used = {node.id for node in ast.walk(tree) if isinstance(node, ast.Name)}
            self.assertEqual([one for one in imported(tree) if one not in used], [], name)

    def test_no_two_files_draw_from_one_another(self):
        draws = {}
        for name, tree in trees():
            modules = [node.module for node in tree.body if isinstance(node, ast.ImportFrom)]
            draws[name] = {module.partition(".")[2] + ".py" for module in modules}
        self.assertEqual(draws["__init__.py"], set())
        while draws:
            free = [name for name in draws if not draws[name] & set(draws)]
            self.assertNotEqual(free, [], f"these draw from one another: {sorted(draws)}")
            for name in free:
                del draws[name]


class Statements(unittest.TestCase):
    def test_only_the_listed_ones(self):
        for node, where in nodes(ast.stmt):
            self.assertIsInstance(node, STATEMENTS, where)
            self.assertFalse(getattr(node, "decorator_list", []), where)
            if isinstance(node, (ast.For, ast.While)):
                self.assertEqual(node.orelse, [], where)
            if isinstance(node, ast.Expr) and not (isinstance(node.above, ast.Module) and node is node.above.body[0]):
                self.assertIsInstance(node.value, ast.Call, where)
            if isinstance(node, ast.Assign):
                self.assertEqual(len(node.targets), 1, where)
                self.assertNotIsInstance(node.targets[0], (ast.Tuple, ast.List), where)

    def test_parameters(self):
        for node, where in nodes(ast.FunctionDef):
            given = node.args
            self.assertFalse(given.vararg or given.kwarg or given.kwonlyargs or given.posonlyargs, where)
            self.assertTrue(all(isinstance(value, ast.Constant) for value in given.defaults), where)
            self.assertIsNone(node.returns, where)
            self.assertEqual([one.arg for one in given.args if one.annotation], [], where)
            self.assertIsInstance(node.above, (ast.Module, ast.ClassDef), where)

    def test_errors_are_raised_and_taken_by_name(self):
        with open(PACKAGE / "errors.py") as file:
            refusals = top_names(ast.parse(file.read()))
        for node, where in nodes(ast.Try):
            self.assertEqual(node.finalbody, [], where)
            for handler in node.handlers:
                self.assertIsInstance(handler.type, ast.Name, where)
                self.assertIn(handler.type.id, refusals, where)
        for node, where in nodes(ast.Raise):
            self.assertIn(called(node.exc), refusals, where)
            self.assertTrue(node.cause is None or getattr(node.cause, "value", 0) is None, where)

    def test_what_a_loop_walks_is_not_changed_in_it(self):
        for node, where in nodes(ast.For):
            walked = {held.id for held in ast.walk(node.iter) if isinstance(held, ast.Name)}
            for held in ast.walk(node):
                if isinstance(held, ast.Call) and called(held) in (
                    "append", "extend", "insert", "pop", "remove", "clear", "update", "setdefault", "reverse",
                ):
                    self.assertNotIn(getattr(held.func.value, "id", None), walked, where)
                if isinstance(held, ast.Subscript) and isinstance(held.ctx, ast.Store):
                    self.assertNotIn(getattr(held.value, "id", None), walked, where)


class Expressions(unittest.TestCase):
    def test_only_the_listed_ones(self):
        for node, where in nodes(ast.expr, ast.comprehension, ast.Div):
            if isinstance(node, ast.comprehension):
                self.assertLessEqual(len(node.ifs), 1, where)
                continue
            self.assertIsInstance(node, EXPRESSIONS, where)
            if isinstance(node, ast.ListComp):
                self.assertEqual(len(node.generators), 1, where)
            if isinstance(node, ast.Constant):
                self.assertNotIsInstance(node.value, (float, complex, bytes), where)
                self.assertNotIn("%", str(node.value), where)
            if isinstance(node, ast.FormattedValue):
                self.assertIsInstance(node.value, ast.Name, where)
                self.assertIn(node.conversion, (-1, ord("r")), where)
                self.assertIsNone(node.format_spec, where)

    def test_is_stands_beside_none_and_truths_alone(self):
        for node, where in nodes(ast.Compare):
            for sign, beside in zip(node.ops, node.comparators):
                if isinstance(sign, (ast.Is, ast.IsNot)):
                    self.assertTrue(isinstance(beside, ast.Constant) and beside.value in (None, True, False), where)

    def test_no_power_of_what_is_not_written(self):
        for node, where in nodes(ast.BinOp):
            if isinstance(node.op, ast.Pow):
                self.assertIsInstance(node.right, ast.Constant, where)

    def test_walked_at_once(self):
        for node, where in nodes(ast.Call):
            if called(node) in WALKED:
                above = node.above
                walked = isinstance(above, (ast.For, ast.comprehension)) and above.iter is node
                self.assertTrue(walked or (called(above) in WALKERS and above.args[0] is node), where)

    def test_sets(self):
        for node, where in nodes(ast.Call):
            if called(node) in ("set", "frozenset"):
                self.assertTrue(
                    called(node.above) in ("sorted", "len") or isinstance(node.above, (ast.Compare, ast.BinOp)), where
                )

    def test_keywords(self):
        for node, where in nodes(ast.Call):
            if called(node) in OWN or called(node) in METHODS:
                for keyword in node.keywords:
                    self.assertIn(keyword.arg, KEYWORDS.get(called(node), ()), where)


class Names(unittest.TestCase):
    def test_names(self):
        for node, where in nodes(ast.Name):
            self.assertFalse(node.id.startswith("_"), f"{where} {node.id}")
            self.assertTrue(node.id in OWN or not hasattr(builtins, node.id), f"{where} {node.id}")
            self.assertNotIn(node.id, NOT_USED, where)

    def test_parameters_and_locals_are_called_otherwise(self):
        for name, tree in trees():
            classes = [node.name for node in tree.body if isinstance(node, ast.ClassDef)]
            barred = set(imported(tree) + classes + top_names(tree)) | set(dir(builtins))
            locals_there = [node.arg for node in ast.walk(tree) if isinstance(node, ast.arg)]
            for node in ast.walk(tree):
                if isinstance(node, ast.Name) and isinstance(node.ctx, ast.Store):
                    if not isinstance(getattr(node.above, "above", None), ast.Module):
                        locals_there.append(node.id)
            self.assertEqual([one for one in locals_there if one in barred], [], name)

    def test_lists_and_dicts_of_the_top_are_only_read(self):
        held = {}
        for name, tree in trees():
            for node in tree.body:
                if isinstance(node, ast.Assign) and isinstance(node.value, (ast.List, ast.Dict)):
                    held[node.targets[0].id] = True
        for node, where in nodes(ast.Name):
            if node.id in held and isinstance(node.ctx, ast.Load):
                self.assertTrue(self.is_read(node), f"{where} {node.id}")

    def is_read(self, node):
        above = node.above
        if isinstance(above, ast.Subscript):
            return isinstance(above.ctx, ast.Load)
        if isinstance(above, ast.Attribute):
            return above.attr in READING
        if isinstance(above, (ast.For, ast.comprehension)):
            return above.iter is node
        return isinstance(above, ast.Compare) or called(above) in READERS

    def test_methods_and_values(self):
        methods, values = set(), set()
        for node, where in nodes(ast.ClassDef):
            self.assertTrue(all(isinstance(held, (ast.FunctionDef, ast.Pass)) for held in node.body), where)
            self.assertLessEqual(len(node.bases), 1, where)
            own = [held.name for held in node.body if isinstance(held, ast.FunctionDef)]
            self.assertEqual(len(own), len(set(own)), where)
            methods.update(own)
        for node, where in nodes(ast.Attribute):
            self.assertNotIn(node.attr, NOT_USED, where)
            if isinstance(node.above, ast.Call) and node.above.func is node:
                self.assertIn(node.attr, methods | set(METHODS), where)
            else:
                values.add(node.attr)
        self.assertEqual(methods & values, set())
        self.assertEqual(values & PYTHONS, set())
        self.assertEqual({name for name in methods if name in PYTHONS}, {"__init__"} & methods)


if __name__ == "__main__":
    unittest.main()
