"""Holds the package to what can be seen by a walk through its trees of the rules in LANGUAGE.md."""

import ast
import builtins
import pathlib
import re
import unittest

PACKAGE = pathlib.Path(__file__).resolve().parent.parent / "stackwarden"

STATEMENTS = (ast.Assign, ast.AugAssign, ast.AnnAssign, ast.If, ast.While, ast.For, ast.Return, ast.Break,
              ast.Continue, ast.Pass, ast.Raise, ast.Try, ast.Expr, ast.FunctionDef, ast.ClassDef, ast.ImportFrom)
EXPRESSIONS = (ast.BoolOp, ast.BinOp, ast.UnaryOp, ast.Lambda, ast.IfExp, ast.Dict, ast.Set, ast.ListComp,
               ast.Compare, ast.Call, ast.FormattedValue, ast.JoinedStr, ast.Constant, ast.Attribute, ast.Subscript,
               ast.Name, ast.List, ast.Tuple, ast.Slice)
BUILT_IN = set(
    "len range enumerate zip min max sum abs sorted reversed int str bool list tuple dict set frozenset isinstance "
    "ord repr any all divmod Exception ValueError TypeError KeyError IndexError LookupError ZeroDivisionError "
    "ArithmeticError OverflowError RuntimeError NotImplementedError AttributeError StopIteration".split())
METHODS = set(
    "append clear copy count endswith extend find get index insert isalnum isalpha isdigit islower isspace isupper "
    "items join keys ljust lower lstrip partition pop remove replace reverse rfind rjust rpartition rsplit rstrip "
    "setdefault split splitlines startswith strip update upper values zfill bit_length".split())
UNSPOKEN = re.compile(
    r"\b(type|typing|typing_extensions|enum|Enum|IntEnum|StrEnum|Flag|IntFlag|Generic|Protocol|ABC|ABCMeta|"
    r"namedtuple|NamedTuple|TypedDict|TYPE_CHECKING|abstractmethod)\b|dataclass|overload|contextmanager")
UNUSED = set("register mro elements open input version_info with_traceback add_note format format_map".split())
SPECIAL = set("__init__ __eq__ __repr__ __str__ __len__".split())
TAKEN = {name for sort in (str, int, list, dict, set, bytes) for name in dir(sort)} - set(
    "count index title find get join lower upper split strip copy add".split())


def files():
    return sorted(path for path in PACKAGE.rglob("*") if path.is_file() and "__pycache__" not in path.parts)


def trees():
    return [(path, ast.parse(path.read_text(encoding="utf-8"))) for path in files()]


def is_plain(node, functions):
    if isinstance(node, (ast.List, ast.Tuple)):
        return all(is_plain(inner, functions) for inner in node.elts)
    if isinstance(node, ast.Dict):
        return all(is_plain(inner, functions) for inner in node.keys + node.values)
    if isinstance(node, ast.Name):
        return node.id in functions
    return isinstance(node, ast.Constant) and (node.value is None or isinstance(node.value, (int, str)))


def bound_names(tree):
    for node in ast.walk(tree):
        if isinstance(node, ast.Name) and isinstance(node.ctx, ast.Store):
            yield node.id
        if isinstance(node, (ast.FunctionDef, ast.ClassDef)):
            yield node.name
        if isinstance(node, ast.arg):
            yield node.arg
        if isinstance(node, ast.ImportFrom):
            yield from (name.asname or name.name for name in node.names)
        if isinstance(node, ast.ExceptHandler) and node.name:
            yield node.name


def method_names(tree):
    return {node.name for top in tree.body if isinstance(top, ast.ClassDef) for node in top.body
            if isinstance(node, ast.FunctionDef)}


# The names of values that are given to an object anywhere in a file.
def value_names(tree):
    return {node.attr for node in ast.walk(tree)
            if isinstance(node, ast.Attribute) and isinstance(node.ctx, ast.Store)}


KEYWORDS = {"sorted": {"key", "reverse"}, "min": {"key", "default"}, "max": {"key", "default"}, "sum": {"start"},
            "enumerate": {"start"}, "zip": {"strict"}}


# The name of what a node calls, by itself or as a method; None where it calls nothing.
def called(node):
    if not isinstance(node, ast.Call):
        return None
    return node.func.id if isinstance(node.func, ast.Name) else getattr(node.func, "attr", None)


class TestLanguage(unittest.TestCase):
    def test_files(self):
        for path in files():
            self.assertRegex(path.name, r"^([a-z][a-z0-9_]*|__init__|__main__)\.py$")
            text = path.read_text(encoding="ascii")
            lines = text.split("\n")
            self.assertRegex(text, r"\A[ -~\n]*\Z", path)
            self.assertLessEqual(len(lines), 400, path)
            self.assertLessEqual(max(len(line) for line in lines), 120, path)
            self.assertNotRegex(text, UNSPOKEN, path)

    def test_tops(self):
        for path, tree in trees():
            functions = set()
            bound = []
            for node in tree.body:
                where = (path.name, node.lineno)
                if isinstance(node, ast.Assign):
                    self.assertTrue(is_plain(node.value, functions), where)
                    bound.append(node.targets[0].id)
                elif isinstance(node, ast.FunctionDef):
                    functions.add(node.name)
                    bound.append(node.name)
                elif isinstance(node, ast.ClassDef):
                    bound.append(node.name)
                elif isinstance(node, ast.ImportFrom):
                    self.assertTrue(node.level == 0 and node.module.startswith("stackwarden."), where)
                    self.assertTrue(all(name.name != "*" for name in node.names), where)
                    bound.extend(name.name for name in node.names)
                else:
                    self.assertTrue(node is tree.body[0] and isinstance(node.value, ast.Constant), where)
            self.assertEqual(len(bound), len(set(bound)), path)

    def test_imports_name_where_it_is_defined_and_go_one_way(self):
        drawn = {}
        own = {}
        for path, tree in trees():
            module = f"stackwarden.{path.stem}"
            own[module] = {node.name for node in tree.body if isinstance(node, (ast.FunctionDef, ast.ClassDef))}
            own[module] |= {node.targets[0].id for node in tree.body if isinstance(node, ast.Assign)}
            drawn[module] = [node for node in tree.body if isinstance(node, ast.ImportFrom)]
        for module, nodes in drawn.items():
            for node in nodes:
                self.assertTrue({name.name for name in node.names} <= own[node.module], (module, node.lineno))
        settled = set()
        while len(settled) < len(drawn):
            free = {module for module in drawn
                    if module not in settled and all(node.module in settled for node in drawn[module])}
            self.assertTrue(free, "files that draw from one another")
            settled |= free

    def test_statements_and_expressions(self):
        for path, tree in trees():
            for node in ast.walk(tree):
                where = (path.name, getattr(node, "lineno", None), node)
                if isinstance(node, ast.stmt):
                    self.assertIsInstance(node, STATEMENTS, where)
                if isinstance(node, ast.expr):
                    self.assertIsInstance(node, EXPRESSIONS, where)
                if isinstance(node, ast.Constant):
                    self.assertTrue(node.value is None or isinstance(node.value, (int, str)), where)
                    self.assertFalse(isinstance(node.value, str) and "%" in node.value, where)
                if isinstance(node, (ast.For, ast.While)):
                    self.assertEqual(node.orelse, [], where)
                if isinstance(node, ast.Assign):
                    self.assertEqual(len(node.targets), 1, where)
                if isinstance(node, ast.ListComp):
                    self.assertTrue(len(node.generators) == 1 and len(node.generators[0].ifs) <= 1, where)
                if isinstance(node, (ast.BinOp, ast.AugAssign)):
                    self.assertNotIsInstance(node.op, (ast.Div, ast.MatMult), where)
                if isinstance(node, ast.BinOp) and isinstance(node.op, ast.Pow):
                    self.assertTrue(isinstance(node.right, ast.Constant) and 0 <= node.right.value <= 64, where)
                if isinstance(node, ast.Compare):
                    for operator, right in zip(node.ops, node.comparators):
                        if isinstance(operator, (ast.Is, ast.IsNot)):
                            self.assertTrue(isinstance(right, ast.Constant) and not isinstance(right.value, str), where)

    def test_functions_and_classes(self):
        for path, tree in trees():
            for node in ast.walk(tree):
                if isinstance(node, ast.FunctionDef):
                    where = (path.name, node.name)
                    told = node.args
                    self.assertEqual((told.vararg, told.kwarg, told.kwonlyargs, told.posonlyargs), (None, None, [], []))
                    self.assertEqual(node.decorator_list, [], where)
                    self.assertLessEqual(node.end_lineno - node.lineno + 1, 40, where)
                if isinstance(node, ast.ClassDef):
                    self.assertEqual((node.decorator_list, node.keywords), ([], []), node.name)
                    self.assertLessEqual(len(node.bases), 1, node.name)
                    for inner in node.body:
                        self.assertIsInstance(inner, (ast.FunctionDef, ast.Pass), node.name)

    def test_names(self):
        for path, tree in trees():
            bound = set(bound_names(tree))
            for name in bound - SPECIAL:
                self.assertFalse(name.startswith("_"), (path.name, name))
                self.assertNotIn(name, dir(builtins), path.name)
                self.assertNotIn(name, UNUSED, path.name)
            for node in ast.walk(tree):
                if isinstance(node, ast.Name) and isinstance(node.ctx, ast.Load):
                    self.assertIn(node.id, bound | BUILT_IN, (path.name, node.lineno))

    def test_methods(self):
        own = {name for path, tree in trees() for name in method_names(tree)}
        for path, tree in trees():
            for node in ast.walk(tree):
                if isinstance(node, ast.Attribute):
                    self.assertNotIn(node.attr, UNUSED, (path.name, node.lineno))
                if isinstance(node, ast.Call) and isinstance(node.func, ast.Attribute):
                    self.assertIn(node.func.attr, METHODS | own, (path.name, node.lineno))

    def test_values_of_objects(self):
        methods = {name for path, tree in trees() for name in method_names(tree)}
        for path, tree in trees():
            self.assertEqual(value_names(tree) & (methods | TAKEN | {"args"}), set(), path.name)

    # L19: the program's own errors alone are taken, and each is made where it is raised.
    def test_errors(self):
        own = {node.name for path, tree in trees() for node in tree.body
               if isinstance(node, ast.ClassDef) and node.bases}
        for path, tree in trees():
            for node in ast.walk(tree):
                where = (path.name, getattr(node, "lineno", None))
                if isinstance(node, ast.ExceptHandler):
                    self.assertTrue(isinstance(node.type, ast.Name) and node.type.id in own, where)
                if isinstance(node, ast.Raise):
                    self.assertIsInstance(node.exc, ast.Call, where)
                    self.assertTrue(isinstance(node.exc.func, ast.Name) and node.exc.func.id in own, where)
                    self.assertIsNone(node.cause, where)

    # L22, L23, L24: how Python's own names are called.
    def test_calls(self):
        for path, tree in trees():
            walked = set()
            for node in ast.walk(tree):
                if isinstance(node, (ast.For, ast.comprehension)):
                    walked.add(node.iter)
                if called(node) in ("list", "tuple", "dict", "sorted", "sum", "any", "all", "enumerate", "zip"):
                    walked.update(node.args[:1])
            asked = set()
            for node in ast.walk(tree):
                if isinstance(node, ast.Compare):
                    asked.update([node.left] + node.comparators)
                if called(node) in ("len", "sorted"):
                    asked.update(node.args[:1])
            for node in ast.walk(tree):
                where = (path.name, getattr(node, "lineno", None))
                if called(node) in ("zip", "enumerate", "reversed", "range", "items", "keys", "values"):
                    self.assertIn(node, walked, where)
                if called(node) in ("set", "frozenset") or isinstance(node, ast.Set):
                    self.assertIn(node, asked, where)
                if isinstance(node, ast.Call):
                    allowed = KEYWORDS.get(called(node), set())
                    self.assertTrue({keyword.arg for keyword in node.keywords} <= allowed, where)

    # L22: they are called, not kept as values; int, str and their like also stand in isinstance and as a key.
    def test_python_s_own_are_called(self):
        for path, tree in trees():
            allowed = set()
            for node in ast.walk(tree):
                if isinstance(node, ast.Call):
                    allowed.add(node.func)
                    if called(node) == "isinstance":
                        allowed.update(ast.walk(node.args[1]))
                if isinstance(node, ast.keyword):
                    allowed.add(node.value)
                if isinstance(node, ast.ClassDef):
                    allowed.update(node.bases)
            for node in ast.walk(tree):
                if isinstance(node, ast.Name) and node.id in BUILT_IN:
                    self.assertIn(node, allowed, (path.name, node.lineno))

    def test_locals(self):
        for path, tree in trees():
            tops = {name.name for node in tree.body if isinstance(node, ast.ImportFrom) for name in node.names}
            tops |= {node.name for node in tree.body if isinstance(node, ast.ClassDef)}
            for node in ast.walk(tree):
                if isinstance(node, ast.FunctionDef):
                    self.assertEqual(set(bound_names(ast.Module(node.body, []))) & tops, set(), (path.name, node.name))
                    self.assertEqual({told.arg for told in node.args.args} & tops, set(), (path.name, node.name))

    def test_classes_stand_where_they_may(self):
        classes = {node.name for path, tree in trees() for node in tree.body if isinstance(node, ast.ClassDef)}
        for path, tree in trees():
            allowed = set()
            for node in ast.walk(tree):
                if isinstance(node, ast.ClassDef):
                    allowed.update(node.bases)
                if isinstance(node, ast.ExceptHandler):
                    allowed.add(node.type)
                if isinstance(node, ast.Call):
                    allowed.add(node.func)
                    if isinstance(node.func, ast.Attribute) and node.func.attr == "__init__":
                        allowed.add(node.func.value)
                    if isinstance(node.func, ast.Name) and node.func.id == "isinstance":
                        allowed.add(node.args[1])
            for node in ast.walk(tree):
                if isinstance(node, ast.Name) and node.id in classes:
                    self.assertIn(node, allowed, (path.name, node.lineno))


if __name__ == "__main__":
    unittest.main()
