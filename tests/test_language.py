"""The package keeps to the small part of Python that it is written in, as far as a plain reading can tell."""

import ast
import builtins
import re
import unittest
from pathlib import Path

PACKAGE = Path(__file__).resolve().parent.parent / "boardpresses"
FILES = sorted(path for path in PACKAGE.rglob("*") if "__pycache__" not in path.parts)
SOURCES = {path.stem: path.read_text(encoding="utf-8") for path in FILES if path.suffix == ".py"}
TREES = {name: ast.parse(source) for name, source in SOURCES.items()}

OWN_NAMES = set("""len range enumerate zip min max sum abs sorted reversed int str bool list tuple dict set frozenset
isinstance ord repr any all divmod Exception ValueError TypeError KeyError IndexError LookupError ZeroDivisionError
ArithmeticError OverflowError RuntimeError NotImplementedError AttributeError StopIteration""".split())
OWN_METHODS = set("""append clear copy count endswith extend find get index insert isalnum isalpha isdigit islower
isspace isupper items join keys ljust lower lstrip partition pop remove replace reverse rfind rjust rpartition rsplit
rstrip setdefault split splitlines startswith strip update upper values zfill bit_length""".split())
TWO_UNDERSCORES = {"__init__", "__eq__", "__repr__", "__str__", "__len__"}
BARRED_WORDS = set("""type typing typing_extensions enum Enum IntEnum StrEnum Flag IntFlag Generic Protocol ABC ABCMeta
namedtuple NamedTuple TypedDict TYPE_CHECKING abstractmethod""".split())
BARRED_NAMES = set("register mro elements open input version_info with_traceback add_note format format_map".split())
# Names that stand nowhere in the package, though Python has most of them as its own.
BARRED_NAMES |= set("""attrgetter breakpoint builtins compile copyright credits delattr dir eval exec exit gc getattr
globals hasattr help id importlib license locals methodcaller os quit setattr super type vars sys chr""".split())
# What is walked on the spot, and the calls of Python's own that may walk it.
WALKED = {"zip", "enumerate", "reversed", "range"}
WALKED_METHODS = {"items", "keys", "values"}
WALKERS = {"list", "tuple", "dict", "sorted", "sum", "any", "all", "enumerate", "zip", "min", "max"}
KEYWORDS = {
    "sorted": {"key", "reverse"}, "min": {"key", "default"}, "max": {"key", "default"}, "sum": {"start"},
    "enumerate": {"start"}, "zip": {"strict"},
}
BARRED_FILES = set("test tests testing site conftest sitecustomize usercustomize".split()) | set(dir(builtins))
STATEMENTS = (ast.Assign, ast.AugAssign, ast.If, ast.While, ast.For, ast.Return, ast.Break, ast.Continue, ast.Pass,
              ast.Raise, ast.Try, ast.Expr, ast.FunctionDef, ast.ClassDef, ast.ImportFrom)
EXPRESSIONS = (ast.Constant, ast.Name, ast.List, ast.Tuple, ast.Dict, ast.BinOp, ast.UnaryOp, ast.BoolOp, ast.Compare,
               ast.IfExp, ast.Call, ast.Attribute, ast.Subscript, ast.Slice, ast.ListComp, ast.JoinedStr,
               ast.FormattedValue, ast.Lambda)


def nodes(*kinds):
    return [(name, node) for name, tree in TREES.items() for node in ast.walk(tree) if isinstance(node, kinds)]


def bound_names(tree):
    """The names that the top of a file binds itself."""
    found = []
    for node in tree.body:
        if isinstance(node, (ast.FunctionDef, ast.ClassDef)):
            found.append(node.name)
        elif isinstance(node, ast.Assign):
            found.extend(target.id for target in node.targets)
    return found


def imports(tree):
    return [node for node in tree.body if isinstance(node, ast.ImportFrom)]


def own_methods():
    return {inner.name for _, node in nodes(ast.ClassDef) for inner in node.body if isinstance(inner, ast.FunctionDef)}


def own_values():
    return {node.attr for _, node in nodes(ast.Attribute) if isinstance(node.ctx, ast.Store)}


class Files(unittest.TestCase):
    def test_names(self):
        for path in FILES:
            self.assertTrue(path.is_file() and path.suffix == ".py", path)
            self.assertRegex(path.stem, "^(__init__|[a-z][a-z0-9_]*)$")
            self.assertFalse(path.stem in BARRED_FILES or path.stem.startswith("test_"), path)

    def test_signs_and_sizes(self):
        for name, source in SOURCES.items():
            self.assertRegex(source, "^[ -~\n]*$", name)
            lines = source.split("\n")
            self.assertLessEqual(len(lines), 400, name)
            self.assertLessEqual(max(len(line) for line in lines), 120, name)
        for name, node in nodes(ast.FunctionDef):
            self.assertLessEqual(node.end_lineno - node.lineno + 1, 40, (name, node.name))

    def test_words(self):
        for name, source in SOURCES.items():
            self.assertFalse(BARRED_WORDS & set(re.findall(r"\w+", source)), name)
            self.assertNotRegex(source, "dataclass|overload|contextmanager", name)


class Tops(unittest.TestCase):
    def test_statements(self):
        for name, tree in TREES.items():
            self.assertIsNotNone(ast.get_docstring(tree), name)
            for node in tree.body[1:]:
                self.assertIsInstance(node, (ast.ImportFrom, ast.FunctionDef, ast.ClassDef, ast.Assign), name)

    def test_names_are_bound_once(self):
        for name, tree in TREES.items():
            drawn = [alias.name for node in imports(tree) for alias in node.names]
            found = bound_names(tree) + drawn
            self.assertEqual(len(found), len(set(found)), name)

    def test_imports_name_the_file_that_defines(self):
        self.assertEqual(nodes(ast.Import), [])
        for name, node in nodes(ast.ImportFrom):
            self.assertIn(node, TREES[name].body)
            package, _, module = node.module.partition(".")
            self.assertEqual((package, node.level), ("boardpresses", 0), name)
            for alias in node.names:
                self.assertIsNone(alias.asname, name)
                self.assertIn(alias.name, bound_names(TREES[module]), name)

    def test_no_two_files_draw_from_one_another(self):
        drawn = {name: {node.module.partition(".")[2] for node in imports(tree)} for name, tree in TREES.items()}
        left = dict(drawn)
        while left:
            free = [name for name in left if not left[name] & set(left)]
            self.assertNotEqual(free, [], left)
            left = {name: left[name] for name in left if name not in free}


class Statements(unittest.TestCase):
    def test_kinds(self):
        for name, node in nodes(ast.stmt):
            self.assertIsInstance(node, STATEMENTS, (name, node.lineno))
            if isinstance(node, ast.Assign):
                self.assertEqual(len(node.targets), 1, (name, node.lineno))
            if isinstance(node, (ast.For, ast.While)):
                self.assertEqual(node.orelse, [], (name, node.lineno))
            if isinstance(node, ast.Try):
                self.assertEqual(node.finalbody, [], (name, node.lineno))
            if isinstance(node, ast.Expr) and node not in TREES[name].body[:1]:
                self.assertIsInstance(node.value, ast.Call, (name, node.lineno))

    def test_no_annotations(self):
        self.assertEqual(nodes(ast.AnnAssign), [])
        for name, node in nodes(ast.FunctionDef):
            self.assertIsNone(node.returns, (name, node.lineno))
        for name, node in nodes(ast.arg):
            self.assertIsNone(node.annotation, (name, node.arg))

    def test_tops_hold_plain_values(self):
        for name, tree in TREES.items():
            functions = {node.name for node in tree.body if isinstance(node, ast.FunctionDef)}
            for top in [node for node in tree.body if isinstance(node, ast.Assign)]:
                inner = top.value.elts if isinstance(top.value, ast.Tuple) else [top.value]
                for value in inner:
                    plain = isinstance(value, ast.Constant) or getattr(value, "id", None) in functions
                    self.assertTrue(plain, (name, top.lineno))

    def test_an_assignment_has_one_name(self):
        for name, node in nodes(ast.Assign):
            self.assertIsInstance(node.targets[0], (ast.Name, ast.Attribute, ast.Subscript), (name, node.lineno))

    def test_functions(self):
        for name, node in nodes(ast.FunctionDef, ast.Lambda):
            given = node.args
            self.assertFalse(given.vararg or given.kwarg or given.kwonlyargs or given.posonlyargs, (name, node.lineno))
        for name, node in nodes(ast.FunctionDef, ast.ClassDef):
            self.assertEqual(node.decorator_list, [], (name, node.lineno))

    def test_classes(self):
        for name, node in nodes(ast.ClassDef):
            self.assertLessEqual(len(node.bases), 1, name)
            methods = [inner.name for inner in node.body]
            self.assertEqual(len(methods), len(set(methods)), name)
        self.assertFalse(own_methods() & own_values())

    def test_errors(self):
        own = {node.name for _, node in nodes(ast.ClassDef)}
        for name, node in nodes(ast.ExceptHandler):
            self.assertIn(node.type.id, own, (name, node.lineno))
        for name, node in nodes(ast.Raise):
            self.assertIsInstance(node.exc, ast.Call, (name, node.lineno))


class Expressions(unittest.TestCase):
    def test_kinds(self):
        for name, node in nodes(ast.expr):
            self.assertIsInstance(node, EXPRESSIONS, (name, node.lineno))
            if isinstance(node, ast.Constant):
                self.assertIn(type(node.value), (int, str, bool, type(None)), (name, node.lineno))
                self.assertNotIn("%", str(node.value), (name, node.lineno))
            if isinstance(node, ast.BinOp):
                self.assertNotIsInstance(node.op, (ast.Div, ast.MatMult, ast.Pow), (name, node.lineno))
            if isinstance(node, ast.ListComp):
                self.assertEqual(len(node.generators), 1, (name, node.lineno))
                self.assertLessEqual(len(node.generators[0].ifs), 1, (name, node.lineno))
            if isinstance(node, ast.FormattedValue):
                self.assertIsInstance(node.value, ast.Name, (name, node.lineno))

    def test_is_stands_beside_none_true_and_false(self):
        for name, node in nodes(ast.Compare):
            for op, side in zip(node.ops, node.comparators):
                if isinstance(op, (ast.Is, ast.IsNot)):
                    self.assertIsInstance(side, ast.Constant, (name, node.lineno))

    def test_attributes(self):
        free = OWN_METHODS | own_methods() | own_values() | TWO_UNDERSCORES
        for name, node in nodes(ast.Attribute):
            self.assertIn(node.attr, free - BARRED_NAMES, (name, node.lineno))


class Calls(unittest.TestCase):
    def test_what_is_walked_on_the_spot(self):
        walked = []
        for _, node in nodes(ast.For, ast.comprehension):
            walked.append(node.iter)
        for _, node in nodes(ast.Call):
            if isinstance(node.func, ast.Name) and node.func.id in WALKERS:
                walked.extend(node.args[:1])
        for name, node in nodes(ast.Call):
            called = getattr(node.func, "id", None)
            method = getattr(node.func, "attr", None)
            if called in WALKED or method in WALKED_METHODS:
                self.assertIn(node, walked, (name, node.lineno))

    def test_keywords(self):
        for name, node in nodes(ast.Call):
            allowed = KEYWORDS.get(getattr(node.func, "id", None), set())
            if getattr(node.func, "id", None) in OWN_NAMES or getattr(node.func, "attr", None) in OWN_METHODS:
                self.assertLessEqual({keyword.arg for keyword in node.keywords}, allowed, (name, node.lineno))

    def test_python_s_own_are_called_and_not_kept(self):
        called = [node.func for _, node in nodes(ast.Call)]
        bases = [base for _, node in nodes(ast.ClassDef) for base in node.bases]
        for name, node in nodes(ast.Name):
            if node.id in OWN_NAMES:
                self.assertTrue(node in called or node in bases, (name, node.lineno))

    def test_methods_are_called_where_they_stand(self):
        called = [node.func for _, node in nodes(ast.Call)]
        for name, node in nodes(ast.Attribute):
            if node.attr in (OWN_METHODS | own_methods()) - own_values():
                self.assertIn(node, called, (name, node.lineno))

    def test_no_sets(self):
        for name, node in nodes(ast.Name):
            self.assertNotIn(node.id, ("set", "frozenset"), (name, node.lineno))

    def test_what_a_loop_walks_is_not_changed_in_it(self):
        changes = {"append", "clear", "extend", "insert", "pop", "remove", "reverse", "setdefault", "update"}
        for name, loop in nodes(ast.For):
            walked = {ast.dump(node) for node in ast.walk(loop.iter) if isinstance(node, (ast.Name, ast.Attribute))}
            for node in [inner for row in loop.body for inner in ast.walk(row)]:
                if isinstance(node, ast.Call) and getattr(node.func, "attr", None) in changes:
                    self.assertNotIn(ast.dump(node.func.value), walked, (name, node.lineno))
                if isinstance(node, ast.Subscript) and isinstance(node.ctx, ast.Store):
                    self.assertNotIn(ast.dump(node.value), walked, (name, node.lineno))


class Names(unittest.TestCase):
    def test_python_s_own_names(self):
        for name, node in nodes(ast.Name):
            if hasattr(builtins, node.id):
                self.assertIn(node.id, OWN_NAMES, (name, node.lineno))
                self.assertIsInstance(node.ctx, ast.Load, (name, node.lineno))

    def test_bound_names(self):
        for name, tree in TREES.items():
            drawn = {alias.name for node in imports(tree) for alias in node.names}
            classes = {node.name for node in tree.body if isinstance(node, ast.ClassDef)}
            local = {node.arg for node in ast.walk(tree) if isinstance(node, ast.arg)}
            stored = [node for node in ast.walk(tree) if isinstance(node, ast.Name)]
            local |= {node.id for node in stored if isinstance(node.ctx, ast.Store)}
            self.assertFalse(local & (drawn | classes | set(dir(builtins)) | BARRED_NAMES), name)
            for word in local | set(bound_names(tree)):
                self.assertRegex(word, "^[A-Za-z][A-Za-z0-9_]*$", name)

    def test_methods(self):
        for method in own_methods():
            self.assertTrue(method in TWO_UNDERSCORES or not method.startswith("_"), method)


if __name__ == "__main__":
    unittest.main()
