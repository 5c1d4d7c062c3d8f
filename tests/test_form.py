"""Holds the package to the written form of ../shared/LANGUAGE.md, as far as a test can see it."""

import ast
import builtins
import pathlib
import re
import unittest

PACKAGE = pathlib.Path(__file__).resolve().parent.parent / "netloft"

STATEMENTS = (
    "Module FunctionDef ClassDef Return Assign AugAssign For While If Raise Try Expr Pass Break Continue "
    "ImportFrom alias arguments arg ExceptHandler keyword comprehension Load Store"
)
EXPRESSIONS = (
    "Constant Name Attribute Subscript Slice Call List Tuple Dict Set ListComp Lambda IfExp BoolOp BinOp UnaryOp "
    "Compare JoinedStr FormattedValue And Or Not USub Invert Add Sub Mult FloorDiv Mod Pow LShift RShift BitOr BitAnd "
    "BitXor Eq NotEq Lt LtE Gt GtE Is IsNot In NotIn"
)
ALLOWED_NODES = (STATEMENTS + " " + EXPRESSIONS).split()
ALLOWED_BUILTINS = (
    "len range enumerate zip min max sum abs sorted reversed int str bool list tuple dict set frozenset isinstance ord "
    "repr any all divmod Exception ValueError TypeError KeyError IndexError LookupError ZeroDivisionError "
    "ArithmeticError OverflowError RuntimeError NotImplementedError StopIteration"
).split()
ALLOWED_METHODS = (
    "append clear copy count endswith extend find get index insert isalnum isalpha isdigit islower isspace isupper "
    "items join keys ljust lower lstrip partition pop remove replace reverse rfind rjust rpartition rsplit rstrip "
    "setdefault split splitlines startswith strip update upper values zfill bit_length __init__"
).split()
WORDS_THAT_STAND_NOWHERE = re.compile(
    r"\b(type|typing|typing_extensions|enum|Enum|IntEnum|StrEnum|Flag|IntFlag|Generic|Protocol|ABC|ABCMeta|namedtuple"
    r"|NamedTuple|TypedDict|TYPE_CHECKING|abstractmethod)\b|dataclass|overload|contextmanager"
)


def modules():
    return sorted(PACKAGE.glob("*.py"))


def nodes(kind):
    for path in modules():
        for node in ast.walk(ast.parse(path.read_text(encoding="utf-8"))):
            if isinstance(node, kind):
                yield path.name, node


def bound_names(node):
    if isinstance(node, ast.Name) and isinstance(node.ctx, ast.Store):
        return [node.id]
    if isinstance(node, ast.arg):
        return [node.arg]
    if isinstance(node, (ast.FunctionDef, ast.ClassDef)):
        return [node.name]
    return []


class FormTest(unittest.TestCase):
    def test_files_and_signs(self):
        self.assertTrue((PACKAGE / "__init__.py").is_file())
        for path in PACKAGE.iterdir():
            if path.name != "__pycache__":
                self.assertRegex(path.name, r"^[a-z0-9_]+\.py$")
        for path in modules():
            text = path.read_bytes().decode("ascii")
            lines = text.split("\n")
            self.assertRegex(text, r"\A[ -~\n]*\Z", path.name)
            self.assertLessEqual(len(lines), 400, path.name)
            self.assertLessEqual(max(len(line) for line in lines), 120, path.name)
            self.assertIsNone(WORDS_THAT_STAND_NOWHERE.search(text), path.name)

    def test_only_the_allowed_statements_and_expressions(self):
        for name, node in nodes(ast.AST):
            self.assertIn(type(node).__name__, ALLOWED_NODES, f"{name}:{getattr(node, 'lineno', 0)}")

    def test_functions_are_short_and_plain(self):
        for name, node in nodes(ast.FunctionDef):
            place = f"{name}:{node.lineno}"
            self.assertLessEqual(node.end_lineno - node.lineno + 1, 40, place)
            self.assertEqual(node.decorator_list, [], place)
            self.assertIsNone(node.args.vararg or node.args.kwarg, place)
            self.assertEqual(node.args.kwonlyargs + node.args.posonlyargs, [], place)

    def test_imports_are_from_the_package_and_nothing_is_drawn_in_a_circle(self):
        drawn = {path.stem: [] for path in modules()}
        for name, node in nodes(ast.ImportFrom):
            self.assertEqual(node.level, 0, name)
            self.assertRegex(node.module, r"^netloft\.[a-z]+$", name)
            self.assertNotIn("*", [alias.name for alias in node.names], name)
            drawn[name[:-3]].append(node.module.split(".")[1])
        self.assertEqual(drawn["__init__"], [])
        while drawn:
            free = [stem for stem in drawn if not set(drawn[stem]) & set(drawn)]
            self.assertTrue(free, f"a circle among {sorted(drawn)}")
            for stem in free:
                del drawn[stem]

    def test_names(self):
        for name, node in nodes(ast.AST):
            for bound in bound_names(node):
                place = f"{name}:{node.lineno}: {bound}"
                if bound != "__init__":
                    self.assertFalse(bound.startswith("_") or hasattr(builtins, bound), place)

    def test_built_in_names(self):
        for name, node in nodes(ast.Name):
            if hasattr(builtins, node.id):
                self.assertIn(node.id, ALLOWED_BUILTINS, f"{name}:{node.lineno}")

    def test_methods(self):
        own = [node.name for name, node in nodes(ast.FunctionDef)]
        for name, node in nodes(ast.Call):
            if isinstance(node.func, ast.Attribute):
                self.assertIn(node.func.attr, ALLOWED_METHODS + own, f"{name}:{node.lineno}")

    def test_statements_by_themselves_are_calls(self):
        for path in modules():
            body = ast.parse(path.read_text(encoding="utf-8")).body
            for top in body[1:] if ast.get_docstring(ast.Module(body, [])) else body:
                for node in ast.walk(top):
                    if isinstance(node, ast.Expr):
                        self.assertIsInstance(node.value, ast.Call, f"{path.name}:{node.lineno}")

    def test_one_target_in_an_assignment(self):
        for name, node in nodes(ast.Assign):
            self.assertEqual(len(node.targets), 1, f"{name}:{node.lineno}")
            self.assertNotIsInstance(node.targets[0], (ast.Tuple, ast.List), f"{name}:{node.lineno}")

    def test_no_local_is_called_like_a_class_or_an_import_of_its_file(self):
        for path in modules():
            tree = ast.parse(path.read_text(encoding="utf-8"))
            taken = [node.name for node in tree.body if isinstance(node, ast.ClassDef)]
            for node in tree.body:
                if isinstance(node, ast.ImportFrom):
                    taken.extend(alias.asname or alias.name for alias in node.names)
            for node in ast.walk(tree):
                if not isinstance(node, ast.ClassDef):
                    for bound in bound_names(node):
                        self.assertNotIn(bound, taken, f"{path.name}:{node.lineno}")

    def test_is_stands_beside_none_true_and_false_alone(self):
        for name, node in nodes(ast.Compare):
            for operator, right in zip(node.ops, node.comparators):
                if isinstance(operator, (ast.Is, ast.IsNot)):
                    self.assertIsInstance(right, ast.Constant, f"{name}:{node.lineno}")

    def test_no_name_is_a_method_in_one_class_and_a_value_in_another(self):
        methods = {part.name for name, node in nodes(ast.ClassDef) for part in node.body
                   if isinstance(part, ast.FunctionDef)}
        values = {node.attr for name, node in nodes(ast.Attribute) if isinstance(node.ctx, ast.Store)}
        self.assertEqual(methods & values, set())

    def test_sets_stand_where_they_are_asked_at_once(self):
        allowed = set()
        for name, node in nodes(ast.Call):
            if isinstance(node.func, ast.Name) and node.func.id in ("len", "sorted"):
                calls = [part for part in ast.walk(node) if isinstance(part, ast.Call)]
                allowed.update((name, part.lineno, part.col_offset) for part in calls)
        for name, node in nodes(ast.Call):
            if isinstance(node.func, ast.Name) and node.func.id in ("set", "frozenset"):
                self.assertIn((name, node.lineno, node.col_offset), allowed)
