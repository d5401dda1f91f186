"""The package keeps to its small part of Python: the rules that a look at the syntax can show."""

import ast
import builtins
import io
import re
import tokenize
import unittest
from pathlib import Path

PACKAGE = Path(__file__).resolve().parent.parent / "roofridges"
FILES = sorted(PACKAGE.rglob("*.py"))

OWN_NAMES = set(
    "len range enumerate zip min max sum abs sorted reversed int str bool list tuple dict set frozenset isinstance ord "
    "repr any all divmod Exception ValueError TypeError KeyError IndexError LookupError ZeroDivisionError "
    "ArithmeticError OverflowError RuntimeError NotImplementedError AttributeError StopIteration".split())
METHODS = set(
    "append clear copy count endswith extend find get index insert isalnum isalpha isdigit islower isspace isupper items "
    "join keys ljust lower lstrip partition pop remove replace reverse rfind rjust rpartition rsplit rstrip setdefault "
    "split splitlines startswith strip update upper values zfill bit_length".split())
WORDS_OUT = re.compile(
    r"\b(type|typing|typing_extensions|enum|Enum|IntEnum|StrEnum|Flag|IntFlag|Generic|Protocol|ABC|ABCMeta|namedtuple"
    r"|NamedTuple|TypedDict|TYPE_CHECKING|abstractmethod)\b|dataclass|overload|contextmanager")
NAMES_OUT = set(
    "register mro elements open input version_info with_traceback add_note attrgetter breakpoint builtins compile "
    "copyright credits delattr dir eval exec exit gc getattr globals hasattr help id importlib license locals "
    "methodcaller os quit setattr super type vars chr".split())
KEYWORDS = {
    "sorted": ("key", "reverse"), "min": ("key", "default"), "max": ("key", "default"), "sum": ("start",),
    "enumerate": ("start",), "zip": ("strict",)}
WALKED = ("zip", "enumerate", "reversed", "range", "items", "keys", "values")
WALKERS = ("list", "tuple", "dict", "sorted", "sum", "any", "all", "enumerate", "zip", "min", "max")
DUNDERS = {"__init__", "__eq__", "__repr__", "__str__", "__len__"}
NODES_OUT = (
    ast.With, ast.Match, ast.Delete, ast.Global, ast.Nonlocal, ast.Assert, ast.Yield, ast.YieldFrom, ast.AsyncFunctionDef,
    ast.AsyncFor, ast.AsyncWith, ast.Await, ast.SetComp, ast.DictComp, ast.GeneratorExp, ast.NamedExpr, ast.Starred,
    ast.Div, ast.MatMult, ast.Import, ast.AnnAssign)


def bound_names(tree):
    """All names that the file binds anywhere, as what and in which row."""
    names = []
    for node in ast.walk(tree):
        if isinstance(node, (ast.FunctionDef, ast.ClassDef)):
            names.append((node.name, node.lineno))
        elif isinstance(node, ast.arg):
            names.append((node.arg, node.lineno))
        elif isinstance(node, ast.Name) and isinstance(node.ctx, ast.Store):
            names.append((node.id, node.lineno))
        elif isinstance(node, ast.ExceptHandler) and node.name:
            names.append((node.name, node.lineno))
    return names


def top_names(tree):
    """The names that a file defines at its top."""
    names = [node.name for node in tree.body if isinstance(node, (ast.FunctionDef, ast.ClassDef))]
    return names + [node.targets[0].id for node in tree.body if isinstance(node, ast.Assign)]


def called_name(node):
    return node.func.id if isinstance(node.func, ast.Name) else getattr(node.func, "attr", "")


def is_plain(node):
    """Whether a value at a file's top is written out plainly, with no reckoning but a sign ahead."""
    if isinstance(node, (ast.List, ast.Tuple)):
        return all(is_plain(part) for part in node.elts)
    if isinstance(node, ast.Dict):
        return all(is_plain(part) for part in node.keys + node.values)
    if isinstance(node, ast.UnaryOp):
        return isinstance(node.op, ast.USub) and isinstance(node.operand, ast.Constant)
    return isinstance(node, (ast.Constant, ast.Name))


class LanguageTest(unittest.TestCase):
    def each_file(self):
        for path in FILES:
            text = path.read_text(encoding="utf-8")
            yield path, text, ast.parse(text)

    def each_node(self):
        for path, text, tree in self.each_file():
            for node in ast.walk(tree):
                yield node, f"{path.name}:{getattr(node, 'lineno', 0)}"

    def test_files(self):
        self.assertTrue(FILES)
        for path in PACKAGE.rglob("*"):
            if "__pycache__" not in path.parts:
                self.assertRegex(path.name, r"\A[a-z0-9_]+(\.py)?\Z")
                self.assertTrue(path.is_dir() or path.suffix == ".py", path)

    def test_signs_and_size(self):
        for path, text, tree in self.each_file():
            self.assertRegex(text, r"\A[ -~\n]*\Z", path.name)
            self.assertLessEqual(len(text.splitlines()), 400, path.name)
            self.assertIsNone(WORDS_OUT.search(text), path.name)
            for number, row in enumerate(text.splitlines(), start=1):
                self.assertLessEqual(len(row), 120, f"{path.name}:{number}")
            for node in ast.walk(tree):
                if isinstance(node, ast.FunctionDef):
                    self.assertLessEqual(node.end_lineno - node.lineno + 1, 40, f"{path.name}:{node.lineno}")

    def test_no_percent_sign_in_texts_and_no_long_numbers(self):
        for path, text, tree in self.each_file():
            for token in tokenize.generate_tokens(io.StringIO(text).readline):
                if token.type == tokenize.STRING:
                    self.assertNotIn("%", token.string, f"{path.name}:{token.start[0]}")
        for node, where in self.each_node():
            if isinstance(node, ast.Constant):
                self.assertNotIsInstance(node.value, (float, complex, bytes), where)

    def test_statements_and_expressions(self):
        for node, where in self.each_node():
            self.assertNotIsInstance(node, NODES_OUT, where)
            if isinstance(node, (ast.For, ast.While)):
                self.assertFalse(node.orelse, where)
            if isinstance(node, ast.Try):
                self.assertFalse(node.finalbody, where)
            if isinstance(node, ast.Assign):
                self.assertEqual(len(node.targets), 1, where)
            if isinstance(node, ast.ListComp):
                self.assertEqual(len(node.generators), 1, where)
                self.assertLessEqual(len(node.generators[0].ifs), 1, where)
            if isinstance(node, ast.Expr):
                self.assertIsInstance(node.value, (ast.Call, ast.Constant), where)

    def test_identity_stands_beside_none_and_truths_alone(self):
        for node, where in self.each_node():
            if isinstance(node, ast.Compare) and any(isinstance(op, (ast.Is, ast.IsNot)) for op in node.ops):
                for part in node.comparators:
                    self.assertIsInstance(part, ast.Constant, where)
                    self.assertIn(repr(part.value), ("None", "True", "False"), where)

    def test_imports(self):
        for path, text, tree in self.each_file():
            for node in ast.walk(tree):
                if isinstance(node, ast.ImportFrom):
                    where = f"{path.name}:{node.lineno}"
                    self.assertIn(node, tree.body, where)
                    self.assertEqual(node.level, 0, where)
                    self.assertTrue(node.module.startswith("roofridges."), where)
                    self.assertTrue((PACKAGE.parent / (node.module.replace(".", "/") + ".py")).is_file(), where)
                    self.assertTrue(all(name.name != "*" and name.asname is None for name in node.names), where)

    def test_imports_are_drawn_from_the_file_that_defines_the_name(self):
        drawn = {}
        for path, text, tree in self.each_file():
            drawn[path.stem] = []
            for node in tree.body:
                if isinstance(node, ast.ImportFrom):
                    stem = node.module.rpartition(".")[2]
                    defined = top_names(ast.parse((PACKAGE / f"{stem}.py").read_text(encoding="utf-8")))
                    drawn[path.stem].append(stem)
                    for name in node.names:
                        self.assertIn(name.name, defined, f"{path.name}:{node.lineno}")
        # What draws from nothing that is left is taken away until nothing is left, or a ring.
        while drawn:
            free = [stem for stem, many in drawn.items() if not [one for one in many if one in drawn]]
            self.assertTrue(free, f"files that draw from one another: {sorted(drawn)}")
            for stem in free:
                del drawn[stem]

    def test_no_annotations_no_other_keywords_and_no_free_powers(self):
        for node, where in self.each_node():
            if isinstance(node, ast.FunctionDef):
                self.assertIsNone(node.returns, where)
            if isinstance(node, ast.arg):
                self.assertIsNone(node.annotation, where)
            if isinstance(node, ast.Call) and node.keywords and isinstance(node.func, ast.Name):
                allowed = KEYWORDS.get(node.func.id)
                if node.func.id in OWN_NAMES:
                    self.assertTrue(all(word.arg in (allowed or ()) for word in node.keywords), where)
            if isinstance(node, ast.BinOp) and isinstance(node.op, ast.Pow):
                self.assertIsInstance(node.right, ast.Constant, where)

    def test_walks_are_walked_on_the_spot(self):
        for path, text, tree in self.each_file():
            allowed = []
            for node in ast.walk(tree):
                if isinstance(node, (ast.For, ast.comprehension)):
                    allowed.append(node.iter)
                if isinstance(node, ast.Call) and isinstance(node.func, ast.Name) and node.func.id in WALKERS:
                    allowed += node.args if node.func.id == "zip" else node.args[:1]
                if isinstance(node, ast.Call) and isinstance(node.func, ast.Attribute) and node.func.attr == "join":
                    allowed += node.args
            for node in ast.walk(tree):
                if isinstance(node, ast.Call) and called_name(node) in WALKED:
                    self.assertIn(node, allowed, f"{path.name}:{node.lineno}")

    def test_the_top_of_a_file(self):
        for path, text, tree in self.each_file():
            self.assertTrue(ast.get_docstring(tree), path.name)
            for node in tree.body[1:]:
                where = f"{path.name}:{node.lineno}"
                self.assertIsInstance(node, (ast.ImportFrom, ast.FunctionDef, ast.ClassDef, ast.Assign), where)
                if isinstance(node, ast.Assign):
                    self.assertTrue(is_plain(node.value), where)
            tops = top_names(tree)
            tops += [name.name for node in tree.body if isinstance(node, ast.ImportFrom) for name in node.names]
            self.assertEqual(len(tops), len(set(tops)), path.name)

    def test_functions_and_classes(self):
        for node, where in self.each_node():
            if isinstance(node, (ast.FunctionDef, ast.ClassDef)):
                self.assertFalse(node.decorator_list, where)
            if isinstance(node, ast.arguments):
                self.assertFalse(node.vararg or node.kwarg or node.kwonlyargs or node.posonlyargs, where)
            if isinstance(node, ast.ClassDef):
                self.assertLessEqual(len(node.bases), 1, where)
                for part in node.body:
                    self.assertIsInstance(part, (ast.FunctionDef, ast.Expr, ast.Pass), where)

    def test_names(self):
        for path, text, tree in self.each_file():
            bound = bound_names(tree)
            imported = {name.name for node in tree.body if isinstance(node, ast.ImportFrom) for name in node.names}
            for name, row in bound:
                where = f"{path.name}:{row} {name}"
                self.assertTrue(not name.startswith("_") or name in DUNDERS, where)
                self.assertNotIn(name, dir(builtins), where)
                self.assertNotIn(name, NAMES_OUT | imported, where)
            known = {name for name, row in bound} | imported | OWN_NAMES
            for node in ast.walk(tree):
                if isinstance(node, ast.Name):
                    self.assertIn(node.id, known, f"{path.name}:{node.lineno}")

    def test_methods_of_python_s_own_values(self):
        own = {name for path, text, tree in self.each_file() for name, row in bound_names(tree)}
        for node, where in self.each_node():
            if isinstance(node, ast.Call) and isinstance(node.func, ast.Attribute):
                self.assertIn(node.func.attr, METHODS | own | DUNDERS, where)

    def test_sets_and_walks_are_not_kept(self):
        for node, where in self.each_node():
            if isinstance(node, ast.Assign) and isinstance(node.value, ast.Call):
                self.assertNotIn(called_name(node.value), ("set", "frozenset") + WALKED, where)

    def test_lists_and_dicts_of_a_file_s_top_are_only_read(self):
        for path, text, tree in self.each_file():
            kept = {node.targets[0].id for node in tree.body
                    if isinstance(node, ast.Assign) and isinstance(node.value, (ast.List, ast.Dict))}
            for node in tree.body:
                if isinstance(node, ast.Assign) and isinstance(node.value, (ast.List, ast.Dict)):
                    parts = node.value.elts if isinstance(node.value, ast.List) else node.value.values
                    self.assertFalse([part for part in parts if isinstance(part, (ast.List, ast.Dict))], path.name)
            read = []
            for node in ast.walk(tree):
                if isinstance(node, ast.Subscript) and isinstance(node.ctx, ast.Load):
                    read.append(node.value)
                if isinstance(node, ast.Compare):
                    read += node.comparators
                if isinstance(node, (ast.For, ast.comprehension)):
                    read.append(node.iter)
                if isinstance(node, ast.Call) and called_name(node) in ("len", "list", "dict", "tuple", "sorted", "zip", "enumerate"):
                    read += node.args
                if isinstance(node, ast.Attribute) and node.attr in ("get", "items", "keys", "values", "index", "count"):
                    read.append(node.value)
            for node in ast.walk(tree):
                if isinstance(node, ast.Name) and node.id in kept and isinstance(node.ctx, ast.Load):
                    self.assertIn(node, read, f"{path.name}:{node.lineno}")

    def test_methods_and_values_of_objects(self):
        methods, values = set(), set()
        own = set(dir("")) | set(dir(0)) | set(dir([])) | set(dir({})) | set(dir(set())) | set(dir(b""))
        for node, where in self.each_node():
            if isinstance(node, ast.ClassDef):
                names = [part.name for part in node.body if isinstance(part, ast.FunctionDef)]
                self.assertEqual(len(names), len(set(names)), where)
                methods |= set(names)
            if isinstance(node, ast.Attribute) and isinstance(node.ctx, ast.Store):
                values.add(node.attr)
                self.assertIsInstance(node.value, ast.Name, where)
        self.assertFalse(methods & values)
        self.assertFalse((methods - DUNDERS | values) & own)

    def test_classes_are_called_or_raised_alone(self):
        for path, text, tree in self.each_file():
            classes = {name.name for node in tree.body if isinstance(node, ast.ImportFrom) for name in node.names
                       if name.name[0].isupper() and not name.name.isupper()}
            classes |= {node.name for node in tree.body if isinstance(node, ast.ClassDef)}
            right = []
            for node in ast.walk(tree):
                if isinstance(node, ast.Call):
                    right += [node.func] + (node.args[1:] if called_name(node) == "isinstance" else [])
                if isinstance(node, ast.ExceptHandler):
                    right.append(node.type)
                if isinstance(node, ast.ClassDef):
                    right += node.bases
            for node in ast.walk(tree):
                if isinstance(node, ast.Name) and node.id in classes:
                    self.assertIn(node, right, f"{path.name}:{node.lineno}")

    def test_errors(self):
        for node, where in self.each_node():
            if isinstance(node, ast.ExceptHandler):
                self.assertIsNotNone(node.type, where)
                self.assertNotIn(ast.unparse(node.type), ("Exception", "TypeError"), where)
            if isinstance(node, ast.Raise):
                self.assertIsInstance(node.exc, ast.Call, where)


if __name__ == "__main__":
    unittest.main()
