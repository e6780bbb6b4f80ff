"""The part of Python that the package keeps to, as far as a plain look tells it.

Each test names the rules that it looks at. What it lets pass may still be
outside of them; what it refuses is.
"""

import ast
import builtins
import pathlib
import re
import unittest

PACKAGE = pathlib.Path(__file__).resolve().parent.parent / "stretchbook"
FILES = sorted(path for path in PACKAGE.rglob("*") if "__pycache__" not in path.parts and path.is_file())

STATEMENTS = (ast.Module, ast.FunctionDef, ast.ClassDef, ast.ImportFrom, ast.Assign, ast.AugAssign, ast.If,
              ast.While, ast.For, ast.Return, ast.Break, ast.Continue, ast.Pass, ast.Raise, ast.Try,
              ast.ExceptHandler, ast.Expr)
EXPRESSIONS = (ast.Constant, ast.List, ast.Tuple, ast.Dict, ast.BinOp, ast.UnaryOp, ast.BoolOp, ast.Compare,
               ast.IfExp, ast.Call, ast.Attribute, ast.Subscript, ast.Slice, ast.ListComp, ast.comprehension,
               ast.JoinedStr, ast.FormattedValue, ast.Name, ast.Lambda, ast.arguments, ast.arg, ast.keyword,
               ast.alias, ast.operator, ast.unaryop, ast.boolop, ast.cmpop, ast.expr_context)
OWN_NAMES = set("""len range enumerate zip min max sum abs sorted reversed int str bool list tuple dict set
    frozenset isinstance ord repr any all divmod Exception ValueError TypeError KeyError IndexError LookupError
    ZeroDivisionError ArithmeticError OverflowError RuntimeError NotImplementedError AttributeError
    StopIteration""".split())
METHODS = set("""append clear copy count endswith extend find get index insert isalnum isalpha isdigit islower
    isspace isupper items join keys ljust lower lstrip partition pop remove replace reverse rfind rjust
    rpartition rsplit rstrip setdefault split splitlines startswith strip update upper values zfill
    bit_length""".split())
SPECIAL = {"__init__", "__eq__", "__repr__", "__str__", "__len__"}
UNUSED_WORDS = re.compile(
    r"\b(type|typing|typing_extensions|enum|Enum|IntEnum|StrEnum|Flag|IntFlag|Generic|Protocol|ABC|ABCMeta"
    r"|namedtuple|NamedTuple|TypedDict|TYPE_CHECKING|abstractmethod)\b|dataclass|overload|contextmanager")

UNUSED_NAMES = set("""register mro elements open input version_info with_traceback add_note format format_map
    attrgetter breakpoint builtins compile copyright credits delattr dir eval exec exit gc getattr globals hasattr help
    id importlib license locals methodcaller os quit setattr super type vars sys chr print""".split())
WALKED = {"zip", "enumerate", "reversed", "range", "items", "keys", "values"}
WALKERS = {"list", "tuple", "dict", "sorted", "sum", "any", "all", "enumerate", "zip", "min", "max", "join"}
KEYWORDS = {"sorted": {"key", "reverse"}, "min": {"key", "default"}, "max": {"key", "default"}, "sum": {"start"},
            "enumerate": {"start"}, "zip": {"strict"}}


def trees():
    for path in FILES:
        yield path.name, ast.parse(path.read_text("utf-8"))


def nodes(kind):
    for name, tree in trees():
        for node in ast.walk(tree):
            if isinstance(node, kind):
                yield f"{name}:{getattr(node, 'lineno', 0)}", node


def bound_in(tree):
    names = {node.id for node in ast.walk(tree) if isinstance(node, ast.Name) and not isinstance(node.ctx, ast.Load)}
    names |= {node.arg for node in ast.walk(tree) if isinstance(node, ast.arg)}
    names |= {node.name for node in ast.walk(tree) if isinstance(node, (ast.FunctionDef, ast.ClassDef))}
    names |= {node.name for node in ast.walk(tree) if isinstance(node, ast.ExceptHandler) and node.name}
    return names | {alias.name for node in ast.walk(tree) if isinstance(node, ast.ImportFrom) for alias in node.names}


def parents(kind):
    """Each node of a kind, with the node in which it stands straight."""
    for name, tree in trees():
        for above in ast.walk(tree):
            for node in ast.iter_child_nodes(above):
                if isinstance(node, kind):
                    yield f"{name}:{getattr(node, 'lineno', 0)}", node, above


def called(node):
    """The name of what is called, of a function or a method."""
    if not isinstance(node, ast.Call):
        return None
    return node.func.id if isinstance(node.func, ast.Name) else getattr(node.func, "attr", None)


class TestFiles(unittest.TestCase):
    def test_l1_l14_names_of_files(self):
        self.assertIn(PACKAGE / "__init__.py", FILES)
        for path in FILES:
            self.assertRegex(path.name, r"^(__init__|__main__|[a-z][a-z0-9_]*)\.py$")

    def test_l10_l14_l17_l27_signs_and_sizes(self):
        for path in FILES:
            text = path.read_text("utf-8")
            rows = text.split("\n")
            self.assertLessEqual(len(rows), 401, path)
            self.assertIsNone(UNUSED_WORDS.search(text), path)
            for number, row in enumerate(rows, start=1):
                self.assertLessEqual(len(row), 120, f"{path.name}:{number}")
                self.assertRegex(row, r"^[ -~]*$", f"{path.name}:{number}")

    def test_l10_length_of_functions(self):
        for place, node in nodes(ast.FunctionDef):
            self.assertLessEqual(node.end_lineno - node.lineno + 1, 40, place)

    def test_l3_the_top_of_a_module(self):
        for name, tree in trees():
            for k, node in enumerate(tree.body):
                place = f"{name}:{node.lineno}"
                if isinstance(node, ast.Expr):
                    self.assertEqual((k, type(node.value)), (0, ast.Constant), place)
                elif isinstance(node, ast.Assign):
                    plain = (ast.Constant, ast.Tuple, ast.List, ast.Dict, ast.Load, ast.UnaryOp, ast.USub)
                    for part in ast.walk(node.value):
                        self.assertIsInstance(part, plain, place)
                else:
                    self.assertIsInstance(node, (ast.ImportFrom, ast.FunctionDef, ast.ClassDef), place)

    def test_l2_l16_imports(self):
        drawn = {}
        defined = {name[:-3]: bound_in(tree) for name, tree in trees()}
        for name, tree in trees():
            for node in ast.walk(tree):
                if isinstance(node, ast.ImportFrom):
                    self.assertEqual((node.level, node in tree.body), (0, True), name)
                    self.assertRegex(node.module, r"^stretchbook\.[a-z_]+$", name)
                    module = node.module.split(".")[1]
                    drawn.setdefault(name[:-3], []).append(module)
                    for alias in node.names:
                        self.assertIn(alias.name, defined[module], name)
        for start in drawn:
            seen, left = set(), list(drawn[start])
            while left:
                module = left.pop()
                self.assertNotEqual(module, start, "two files draw from one another")
                if module not in seen:
                    seen.add(module)
                    left += drawn.get(module, [])


class TestCode(unittest.TestCase):
    def test_l6_l7_forms(self):
        for place, node in nodes(ast.AST):
            self.assertIsInstance(node, STATEMENTS + EXPRESSIONS, place)
            self.assertNotIsInstance(node, (ast.Div, ast.MatMult), place)

    def test_l4_l5_l21_functions_and_classes(self):
        for place, node in nodes((ast.FunctionDef, ast.ClassDef)):
            self.assertEqual(node.decorator_list, [], place)
        for place, node in nodes(ast.FunctionDef):
            self.assertIsNone(node.returns, place)
        for place, node in nodes(ast.arg):
            self.assertIsNone(node.annotation, place)
        for place, node in nodes(ast.arguments):
            self.assertEqual((node.vararg, node.kwarg, node.kwonlyargs, node.posonlyargs), (None, None, [], []), place)
        for place, node in nodes(ast.ClassDef):
            self.assertLessEqual(len(node.bases), 1, place)
            for part in node.body:
                self.assertIsInstance(part, (ast.FunctionDef, ast.Pass), place)

    def test_l6_l7_l13_assignments_loops_and_comprehensions(self):
        for place, node in nodes(ast.Assign):
            self.assertEqual(len(node.targets), 1, place)
        for place, node in nodes((ast.For, ast.While)):
            self.assertEqual(node.orelse, [], place)
        for place, node in nodes(ast.Try):
            self.assertEqual(node.finalbody, [], place)
        for place, node in nodes(ast.ListComp):
            self.assertEqual((len(node.generators), len(node.generators[0].ifs) <= 1), (1, True), place)

    def test_l8_l12_l15_names(self):
        for name, tree in trees():
            bound = bound_in(tree)
            self.assertEqual(sorted(bound & set(dir(builtins))), [], name)
            for word in bound - SPECIAL:
                self.assertRegex(word, r"^[A-Za-z][A-Za-z0-9_]*$", name)
            for node in ast.walk(tree):
                if isinstance(node, ast.Name):
                    self.assertIn(node.id, bound | OWN_NAMES, f"{name}:{node.lineno}")

    def test_l20_is(self):
        for place, node in nodes(ast.Compare):
            for operator, right in zip(node.ops, node.comparators):
                if isinstance(operator, (ast.Is, ast.IsNot)):
                    self.assertTrue(isinstance(right, ast.Constant) and right.value in (None, True, False), place)

    def test_l25_methods(self):
        own = {node.name for _, node in nodes(ast.FunctionDef)}
        for place, node in nodes(ast.Call):
            if isinstance(node.func, ast.Attribute):
                self.assertIn(node.func.attr, METHODS | own, place)

    def test_l7_l27_values(self):
        for place, node in nodes(ast.Constant):
            self.assertIsInstance(node.value, (int, str, type(None)), place)
            if isinstance(node.value, str):
                self.assertNotIn("%", node.value, place)
        for place, node in nodes(ast.BinOp):
            if isinstance(node.op, ast.Pow):
                self.assertTrue(isinstance(node.right, ast.Constant) and 0 <= node.right.value <= 64, place)
        for place, node in nodes(ast.FormattedValue):
            self.assertIsInstance(node.value, ast.Name, place)
            self.assertIsNone(node.format_spec, place)


class TestNarrowerRows(unittest.TestCase):
    def test_l8_l17_names_that_are_not_used(self):
        for name, tree in trees():
            self.assertEqual(sorted(bound_in(tree) & UNUSED_NAMES), [], name)
        for place, node in nodes((ast.Name, ast.Attribute)):
            self.assertNotIn(node.id if isinstance(node, ast.Name) else node.attr, UNUSED_NAMES, place)

    def test_l15_names_bound_once_and_not_hidden(self):
        for name, tree in trees():
            top = [node.name for node in tree.body if isinstance(node, (ast.FunctionDef, ast.ClassDef))]
            top += [alias.name for node in tree.body if isinstance(node, ast.ImportFrom) for alias in node.names]
            top += [node.targets[0].id for node in tree.body if isinstance(node, ast.Assign)]
            self.assertEqual(len(top), len(set(top)), name)
            for node in ast.walk(tree):
                if isinstance(node, ast.arg):
                    self.assertNotIn(node.arg, top, f"{name}:{node.lineno}")
                elif isinstance(node, ast.Name) and isinstance(node.ctx, ast.Store) and node.col_offset:
                    self.assertNotIn(node.id, top, f"{name}:{node.lineno}")

    def test_l18_l26_methods_and_values(self):
        own = {part.name for _, node in nodes(ast.ClassDef) for part in node.body if isinstance(part, ast.FunctionDef)}
        given = {node.attr for _, node in nodes(ast.Attribute) if isinstance(node.ctx, ast.Store)}
        self.assertEqual(sorted(own & given), [])
        python = {word for kind in (str, int, list, dict, set, bytes, tuple) for word in dir(kind)}
        self.assertEqual(sorted((own - SPECIAL | given) & (python | {"args"})), [])
        for place, node in nodes(ast.ClassDef):
            names = [part.name for part in node.body if isinstance(part, ast.FunctionDef)]
            self.assertEqual(len(names), len(set(names)), place)

    def test_l19_handlers(self):
        own = {node.name for _, node in nodes(ast.ClassDef)}
        for place, node in nodes(ast.ExceptHandler):
            self.assertIsInstance(node.type, ast.Name, place)
            self.assertIn(node.type.id, own | {"KeyError", "ZeroDivisionError", "StopIteration"}, place)

    def test_l22_keywords(self):
        for place, node in nodes(ast.Call):
            for keyword in node.keywords:
                self.assertIn(keyword.arg, KEYWORDS.get(called(node), ()), place)

    def test_l23_walked_at_once(self):
        for place, node, above in parents(ast.Call):
            if called(node) in WALKED:
                walked = isinstance(above, (ast.For, ast.comprehension)) and above.iter is node
                self.assertTrue(walked or (called(above) in WALKERS and above.args[0] is node), place)

    def test_l24_sets(self):
        for place, node, above in parents(ast.Call):
            if called(node) in ("set", "frozenset"):
                beside = isinstance(above, (ast.Compare, ast.BinOp))
                self.assertTrue(beside or called(above) in ("len", "sorted"), place)


if __name__ == "__main__":
    unittest.main()
