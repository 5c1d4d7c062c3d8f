"""Holds the package to the written form of ../shared/LANGUAGE.md, as far as a test can see it."""

import ast
import builtins
import functools
import pathlib
import re
import unittest

PACKAGE = pathlib.Path(__file__).resolve().parent.parent / "netloft"

STATEMENTS = (
    "Module FunctionDef ClassDef Return Assign AugAssign For While If Raise Try Expr Pass Break Continue "
    "ImportFrom alias arguments arg ExceptHandler keyword comprehension Load Store"
)
EXPRESSIONS = (
    "Constant Name Attribute Subscript Slice Call List Tuple Dict Set ListComp Lambda IfExp BoolOp BinOp UnaryOp "
    "Compare JoinedStr FormattedValue And Or Not USub Invert Add Sub Mult FloorDiv Mod Pow LShift RShift BitOr BitAnd "
    "BitXor Eq NotEq Lt LtE Gt GtE Is IsNot In NotIn"
)
ALLOWED_NODES = (STATEMENTS + " " + EXPRESSIONS).split()
ALLOWED_BUILTINS = (
    "len range enumerate zip min max sum abs sorted reversed int str bool list tuple dict set frozenset isinstance ord "
    "repr any all divmod Exception ValueError TypeError KeyError IndexError LookupError ZeroDivisionError "
    "ArithmeticError OverflowError RuntimeError NotImplementedError StopIteration"
).split()
ALLOWED_METHODS = (
    "append clear copy count endswith extend find get index insert isalnum isalpha isdigit islower isspace isupper "
    "items join keys ljust lower lstrip partition pop remove replace reverse rfind rjust rpartition rsplit rstrip "
    "setdefault split splitlines startswith strip update upper values zfill bit_length __init__"
).split()
WORDS_THAT_STAND_NOWHERE = re.compile(
    r"\b(type|typing|typing_extensions|enum|Enum|IntEnum|StrEnum|Flag|IntFlag|Generic|Protocol|ABC|ABCMeta|namedtuple"
    r"|NamedTuple|TypedDict|TYPE_CHECKING|abstractmethod)\b|dataclass|overload|contextmanager"
)


def modules():
    return sorted(PACKAGE.glob("*.py"))


@functools.cache
def trees_of_modules():
    return [(path.name, ast.parse(path.read_text(encoding="utf-8"))) for path in modules()]


@functools.cache
def nodes(kind):
    return [(name, node) for name, tree in trees_of_modules() for node in ast.walk(tree) if isinstance(node, kind)]


def bound_names(node):
    if isinstance(node, ast.Name) and isinstance(node.ctx, ast.Store):
        return [node.id]
    if isinstance(node, ast.arg):
        return [node.arg]
    if isinstance(node, (ast.FunctionDef, ast.ClassDef)):
        return [node.name]
    return []


class FormTest(unittest.TestCase):
    def test_files_and_signs(self):
        self.assertTrue((PACKAGE / "__init__.py").is_file())
        for path in PACKAGE.iterdir():
            if path.name != "__pycache__":
                self.assertRegex(path.name, r"^[a-z0-9_]+\.py$")
        for path in modules():
            text = path.read_bytes().decode("ascii")
            lines = text.split("\n")
            self.assertRegex(text, r"\A[ -~\n]*\Z", path.name)
            self.assertLessEqual(len(lines), 400, path.name)
            self.assertLessEqual(max(len(line) for line in lines), 120, path.name)
            self.assertIsNone(WORDS_THAT_STAND_NOWHERE.search(text), path.name)

    def test_only_the_allowed_statements_and_expressions(self):
        for name, node in nodes(ast.AST):
            self.assertIn(type(node).__name__, ALLOWED_NODES, f"{name}:{getattr(node, 'lineno', 0)}")

    def test_functions_are_short_and_plain(self):
        for name, node in nodes(ast.FunctionDef):
            place = f"{name}:{node.lineno}"
            self.assertLessEqual(node.end_lineno - node.lineno + 1, 40, place)
            self.assertEqual(node.decorator_list, [], place)
            self.assertIsNone(node.args.vararg or node.args.kwarg, place)
            self.assertEqual(node.args.kwonlyargs + node.args.posonlyargs, [], place)

    def test_imports_are_from_the_package_and_nothing_is_drawn_in_a_circle(self):
        drawn = {path.stem: [] for path in modules()}
        for name, node in nodes(ast.ImportFrom):
            self.assertEqual(node.level, 0, name)
            self.assertRegex(node.module, r"^netloft\.[a-z]+$", name)
            self.assertNotIn("*", [alias.name for alias in node.names], name)
            drawn[name[:-3]].append(node.module.split(".")[1])
        self.assertEqual(drawn["__init__"], [])
        while drawn:
            free = [stem for stem in drawn if not set(drawn[stem]) & set(drawn)]
            self.assertTrue(free, f"a circle among {sorted(drawn)}")
            for stem in free:
                del drawn[stem]

    def test_names(self):
        for name, node in nodes(ast.AST):
            for bound in bound_names(node):
                place = f"{name}:{node.lineno}: {bound}"
                if bound != "__init__":
                    self.assertFalse(bound.startswith("_") or hasattr(builtins, bound), place)

    def test_built_in_names(self):
        for name, node in nodes(ast.Name):
            if hasattr(builtins, node.id):
                self.assertIn(node.id, ALLOWED_BUILTINS, f"{name}:{node.lineno}")

    def test_methods(self):
        own = [node.name for name, node in nodes(ast.FunctionDef)]
        for name, node in nodes(ast.Call):
            if isinstance(node.func, ast.Attribute):
                self.assertIn(node.func.attr, ALLOWED_METHODS + own, f"{name}:{node.lineno}")

    def test_statements_by_themselves_are_calls(self):
        for path in modules():
            body = ast.parse(path.read_text(encoding="utf-8")).body
            for top in body[1:] if ast.get_docstring(ast.Module(body, [])) else body:
                for node in ast.walk(top):
                    if isinstance(node, ast.Expr):
                        self.assertIsInstance(node.value, ast.Call, f"{path.name}:{node.lineno}")

    def test_one_target_in_an_assignment(self):
        for name, node in nodes(ast.Assign):
            self.assertEqual(len(node.targets), 1, f"{name}:{node.lineno}")
            self.assertNotIsInstance(node.targets[0], (ast.Tuple, ast.List), f"{name}:{node.lineno}")

    def test_no_local_is_called_like_a_class_or_an_import_of_its_file(self):
        for path in modules():
            tree = ast.parse(path.read_text(encoding="utf-8"))
            taken = [node.name for node in tree.body if isinstance(node, ast.ClassDef)]
            for node in tree.body:
                if isinstance(node, ast.ImportFrom):
                    taken.extend(alias.asname or alias.name for alias in node.names)
            for node in ast.walk(tree):
                if not isinstance(node, ast.ClassDef):
                    for bound in bound_names(node):
                        self.assertNotIn(bound, taken, f"{path.name}:{node.lineno}")

    def test_is_stands_beside_none_true_and_false_alone(self):
        for name, node in nodes(ast.Compare):
            for operator, right in zip(node.ops, node.comparators):
                if isinstance(operator, (ast.Is, ast.IsNot)):
                    self.assertIsInstance(right, ast.Constant, f"{name}:{node.lineno}")

    def test_no_name_is_a_method_in_one_class_and_a_value_in_another(self):
        methods = {part.name for name, node in nodes(ast.ClassDef) for part in node.body
                   if isinstance(part, ast.FunctionDef)}
        values = {node.attr for name, node in nodes(ast.Attribute) if isinstance(node.ctx, ast.Store)}
        self.assertEqual(methods & values, set())

    def test_sets_stand_where_they_are_asked_at_once(self):
        allowed = set()
        for name, node in nodes(ast.Call):
            if isinstance(node.func, ast.Name) and node.func.id in ("len", "sorted"):
                calls = [part for part in ast.walk(node) if isinstance(part, ast.Call)]
                allowed.update((name, part.lineno, part.col_offset) for part in calls)
        for name, node in nodes(ast.Call):
            if isinstance(node.func, ast.Name) and node.func.id in ("set", "frozenset"):
                self.assertIn((name, node.lineno, node.col_offset), allowed)


WALKED = ("zip", "enumerate", "reversed", "range", "items", "keys", "values")
WALKERS = ("list", "tuple", "dict", "sorted", "sum", "any", "all", "enumerate", "zip", "min", "max")
OWN_VALUES = ("count", "index", "title", "find", "get", "join", "lower", "upper", "split", "strip", "copy", "add")
UNUSED_NAMES = (
    "register mro elements open input version_info with_traceback add_note attrgetter breakpoint builtins compile "
    "copyright credits delattr dir eval exec exit gc getattr globals hasattr help id importlib license locals "
    "methodcaller os quit setattr super type vars sys format format_map"
).split()


def called_name(node):
    if isinstance(node, ast.Call) and isinstance(node.func, ast.Name):
        return node.func.id
    if isinstance(node, ast.Call) and isinstance(node.func, ast.Attribute):
        return node.func.attr
    return None


def own_classes():
    return [node.name for name, node in nodes(ast.ClassDef)]


class NarrowFormTest(unittest.TestCase):
    def test_the_top_of_a_module(self):
        for name, tree in trees_of_modules():
            bound = []
            for node in tree.body:
                kinds = (ast.ImportFrom, ast.FunctionDef, ast.ClassDef, ast.Assign)
                if not (node is tree.body[0] and isinstance(node, ast.Expr)):
                    self.assertIsInstance(node, kinds, f"{name}:{node.lineno}")
                if isinstance(node, ast.Assign):
                    self.check_plain_value(ast.literal_eval(node.value))
                    bound.append(node.targets[0].id)
                elif isinstance(node, ast.ImportFrom):
                    bound.extend(alias.asname or alias.name for alias in node.names)
                elif not isinstance(node, ast.Expr):
                    bound.append(node.name)
            self.assertEqual(len(bound), len(set(bound)), name)

    def check_plain_value(self, value):
        if isinstance(value, (list, dict)):
            for part in value.values() if isinstance(value, dict) else value:
                self.assertNotIsInstance(part, (list, dict))

    def test_what_stands_at_a_top_is_only_read(self):
        for name, tree in trees_of_modules():
            kept = [node.targets[0].id for node in tree.body if isinstance(node, ast.Assign)
                    and isinstance(node.value, (ast.List, ast.Dict))]
            read = [part.value for part in ast.walk(tree) if isinstance(part, ast.Subscript)
                    and isinstance(part.ctx, ast.Load)]
            for node in ast.walk(tree):
                if isinstance(node, ast.Name) and isinstance(node.ctx, ast.Load) and node.id in kept:
                    self.assertIn(node, read, f"{name}:{node.lineno}")

    def test_imports_come_from_the_file_that_defines_the_name_and_are_used(self):
        defined = {name: [node.name for node in tree.body if isinstance(node, (ast.FunctionDef, ast.ClassDef))]
                   + [node.targets[0].id for node in tree.body if isinstance(node, ast.Assign)]
                   for name, tree in trees_of_modules()}
        for name, tree in trees_of_modules():
            used = [node.id for node in ast.walk(tree) if isinstance(node, ast.Name)]
            for node in tree.body:
                for alias in node.names if isinstance(node, ast.ImportFrom) else []:
                    self.assertIn(alias.name, defined[node.module.split(".")[1] + ".py"], name)
                    self.assertIn(alias.name, used, name)

    def test_classes(self):
        for name, node in nodes(ast.ClassDef):
            place = f"{name}:{node.lineno}"
            self.assertLessEqual(len(node.bases), 1, place)
            self.assertEqual(node.keywords + node.decorator_list, [], place)
            for part in node.body:
                self.assertIsInstance(part, (ast.FunctionDef, ast.Pass), place)
            methods = [part.name for part in node.body if isinstance(part, ast.FunctionDef)]
            self.assertEqual(len(methods), len(set(methods)), place)
        for name, tree in trees_of_modules():
            inner = [part for node in tree.body for part in ast.walk(node) if part is not node]
            self.assertFalse([node for node in inner if isinstance(node, ast.ClassDef)], name)

    def test_classes_are_called_raised_or_stand_under(self):
        for name, tree in trees_of_modules():
            right = []
            for node in ast.walk(tree):
                if isinstance(node, ast.Call):
                    right.append(node.func)
                elif isinstance(node, ast.ClassDef):
                    right.extend(node.bases)
                elif isinstance(node, ast.ExceptHandler):
                    right.append(node.type)
            for node in ast.walk(tree):
                if isinstance(node, ast.Name) and node.id in own_classes():
                    self.assertIn(node, right, f"{name}:{node.lineno}")

    def test_what_is_raised_is_made_on_the_spot(self):
        for name, node in nodes(ast.Raise):
            self.assertIn(called_name(node.exc), own_classes(), f"{name}:{node.lineno}")

    def test_no_try_no_annotation_no_else_behind_a_loop(self):
        for name, node in nodes(ast.AST):
            place = f"{name}:{getattr(node, 'lineno', 0)}"
            self.assertNotIsInstance(node, ast.Try, place)
            if isinstance(node, (ast.For, ast.While)):
                self.assertEqual(node.orelse, [], place)
            if isinstance(node, ast.arg):
                self.assertIsNone(node.annotation, place)
            if isinstance(node, ast.FunctionDef):
                self.assertIsNone(node.returns, place)
                for default in node.args.defaults:
                    self.assertIsInstance(default, ast.Constant, place)

    def test_comprehensions(self):
        for name, node in nodes(ast.ListComp):
            self.assertEqual(len(node.generators), 1, f"{name}:{node.lineno}")
            self.assertLessEqual(len(node.generators[0].ifs), 1, f"{name}:{node.lineno}")

    def test_texts_and_numbers(self):
        for name, node in nodes(ast.Constant):
            self.assertIn(type(node.value), (int, str, bool, type(None)), f"{name}:{node.lineno}")
            if isinstance(node.value, str):
                self.assertNotIn("%", node.value, f"{name}:{node.lineno}")
        for name, node in nodes(ast.BinOp):
            if isinstance(node.op, ast.Pow):
                self.assertIsInstance(node.right, ast.Constant, f"{name}:{node.lineno}")
        for name, node in nodes(ast.FormattedValue):
            self.assertIsInstance(node.value, ast.Name, f"{name}:{node.lineno}")
        for path in modules():
            for mark in re.findall(r"\\.", path.read_text(encoding="utf-8")):
                self.assertIn(mark, ("\\n", "\\t", "\\\\", "\\'", '\\"'), path.name)

    def test_names_that_are_not_used(self):
        for name, node in nodes(ast.AST):
            words = [getattr(node, field, None) for field in ("id", "attr", "arg", "name")]
            for word in words:
                self.assertNotIn(word, UNUSED_NAMES, f"{name}:{getattr(node, 'lineno', 0)}")

    def test_names_of_pythons_own_are_called(self):
        for name, tree in trees_of_modules():
            called = [node.func for node in ast.walk(tree) if isinstance(node, ast.Call)]
            bases = [base for node in ast.walk(tree) if isinstance(node, ast.ClassDef) for base in node.bases]
            for node in ast.walk(tree):
                if isinstance(node, ast.Name) and hasattr(builtins, node.id):
                    self.assertIn(node, called + bases, f"{name}:{node.lineno}")

    def test_keywords(self):
        allowed = {"sorted": ("key", "reverse"), "min": ("key", "default"), "max": ("key", "default"),
                   "sum": ("start",), "enumerate": ("start",), "zip": ("strict",)}
        own = [node.name for name, node in nodes(ast.FunctionDef)] + own_classes()
        for name, node in nodes(ast.Call):
            for keyword in node.keywords:
                if called_name(node) not in own:
                    self.assertIn(keyword.arg, allowed.get(called_name(node), ()), f"{name}:{node.lineno}")

    def test_walked_at_once(self):
        for name, tree in trees_of_modules():
            right = []
            for node in ast.walk(tree):
                if isinstance(node, (ast.For, ast.comprehension)):
                    right.append(node.iter)
                elif called_name(node) in WALKERS and isinstance(node.func, ast.Name):
                    right.extend(node.args if called_name(node) == "zip" else node.args[:1])
            for node in ast.walk(tree):
                if called_name(node) in WALKED:
                    self.assertIn(node, right, f"{name}:{node.lineno}")

    def test_what_a_loop_walks_is_not_changed_in_it(self):
        changes = ("append", "clear", "extend", "insert", "pop", "remove", "reverse", "setdefault", "update")
        for name, loop in nodes(ast.For):
            walked = [ast.unparse(part) for part in ast.walk(loop.iter) if isinstance(part, (ast.Name, ast.Attribute))]
            for node in [part for statement in loop.body for part in ast.walk(statement)]:
                if called_name(node) in changes and isinstance(node.func, ast.Attribute):
                    self.assertNotIn(ast.unparse(node.func.value), walked, f"{name}:{node.lineno}")
                if isinstance(node, ast.Subscript) and isinstance(node.ctx, ast.Store):
                    self.assertNotIn(ast.unparse(node.value), walked, f"{name}:{node.lineno}")

    def test_methods_are_called_where_they_stand(self):
        methods = [part.name for name, node in nodes(ast.ClassDef) for part in node.body
                   if isinstance(part, ast.FunctionDef)]
        for name, tree in trees_of_modules():
            called = [node.func for node in ast.walk(tree) if isinstance(node, ast.Call)]
            for node in ast.walk(tree):
                if isinstance(node, ast.Attribute) and node.attr in methods + ALLOWED_METHODS:
                    self.assertIn(node, called, f"{name}:{node.lineno}")

    def test_own_methods_and_values(self):
        taken = {word for kind in (str, int, list, tuple, dict, set, bytes) for word in dir(kind)}
        values = {node.attr for name, node in nodes(ast.Attribute) if isinstance(node.ctx, ast.Store)}
        methods = {part.name for name, node in nodes(ast.ClassDef) for part in node.body
                   if isinstance(part, ast.FunctionDef)}
        self.assertEqual(values & taken - set(OWN_VALUES), set())
        self.assertEqual(methods & taken - set(ALLOWED_METHODS) - {"add", "discard"}, set())
        self.assertEqual([method for method in methods if method.startswith("__")], ["__init__"])

    def test_making_an_object_gives_back_nothing(self):
        for name, node in nodes(ast.FunctionDef):
            if node.name == "__init__":
                self.assertFalse([part for part in ast.walk(node) if isinstance(part, ast.Return)], name)
