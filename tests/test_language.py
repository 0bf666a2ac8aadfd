"""The package's files keep to LANGUAGE.md, as far as a walk over their trees shows it."""

import ast
import functools
import pathlib
import re
import unittest

PACKAGE = pathlib.Path(__file__).resolve().parent.parent / "doorwatch"

STATEMENTS = (
    ast.FunctionDef, ast.ClassDef, ast.Return, ast.Assign, ast.AugAssign, ast.For, ast.While, ast.If, ast.Raise,
    ast.Try, ast.ExceptHandler, ast.ImportFrom, ast.Expr, ast.Pass, ast.Break, ast.Continue,
)
EXPRESSIONS = (
    ast.BoolOp, ast.BinOp, ast.UnaryOp, ast.Lambda, ast.IfExp, ast.Dict, ast.Set, ast.ListComp, ast.Compare, ast.Call,
    ast.JoinedStr, ast.FormattedValue, ast.Constant, ast.Attribute, ast.Subscript, ast.Name, ast.List, ast.Tuple,
    ast.Slice, ast.keyword, ast.comprehension, ast.arguments, ast.arg, ast.alias, ast.Module,
)
SIGNS = (ast.operator, ast.boolop, ast.unaryop, ast.cmpop, ast.expr_context)

BUILT_IN = set(
    "len range enumerate zip min max sum abs sorted reversed int str bool list tuple dict set frozenset isinstance ord"
    " repr any all divmod Exception ValueError KeyError IndexError LookupError ZeroDivisionError"
    " ArithmeticError OverflowError RuntimeError NotImplementedError StopIteration".split()
)
METHODS = set(
    "append clear copy count endswith extend find get index insert isalnum isalpha isdigit islower isspace isupper"
    " items join keys ljust lower lstrip partition pop remove replace reverse rfind rjust rpartition rsplit rstrip"
    " setdefault split splitlines startswith strip update upper values zfill bit_length".split()
)
DUNDERS = {"__init__", "__eq__", "__repr__", "__str__", "__len__"}
WORDS = (
    r"\b(type|typing|typing_extensions|enum|Enum|IntEnum|StrEnum|Flag|IntFlag|Generic|Protocol|ABC|ABCMeta|namedtuple"
    r"|NamedTuple|TypedDict|TYPE_CHECKING|abstractmethod)\b|dataclass|overload|contextmanager"
)
UNUSED_NAMES = set(
    "register mro elements open input version_info with_traceback add_note attrgetter breakpoint builtins compile"
    " copyright credits delattr dir eval exec exit gc getattr globals hasattr help id importlib license locals"
    " methodcaller os quit setattr super type vars sys chr print format format_map".split()
)

WALKED_AT_ONCE = {"zip", "enumerate", "reversed", "range", "items", "keys", "values"}
WALKERS = {"list", "tuple", "dict", "sorted", "sum", "any", "all", "enumerate", "zip", "min", "max"}
OWN_KINDS = (str, int, list, tuple, dict, set, frozenset, bytes)
VALUES_LIKE_METHODS = set("count index title find get join lower upper split strip copy add".split())
KEYWORDS = {"sorted": {"key", "reverse"}, "min": {"key", "default"}, "max": {"key", "default"}, "sum": {"start"},
            "enumerate": {"start"}, "zip": {"strict"}}
CHANGES = set("append clear extend insert pop remove reverse setdefault update".split())


def files():
    return [path for path in sorted(PACKAGE.rglob("*")) if "__pycache__" not in path.parts]


@functools.lru_cache(None)
def tree_of(path):
    return ast.parse(path.read_text(encoding="utf-8"), str(path))


def nodes():
    """All nodes of all files, each with the place where it stands."""
    for path in files():
        for node in ast.walk(tree_of(path)):
            yield node, f"{path.name}, line {getattr(node, 'lineno', 0)}"


def bound_names(tree):
    found = []
    for node in ast.walk(tree):
        if isinstance(node, (ast.FunctionDef, ast.ClassDef)):
            found.append(node.name)
        elif isinstance(node, ast.arg):
            found.append(node.arg)
        elif isinstance(node, ast.Name) and isinstance(node.ctx, ast.Store):
            found.append(node.id)
        elif isinstance(node, ast.alias):
            found.append(node.asname or node.name)
        elif isinstance(node, ast.ExceptHandler) and node.name:
            found.append(node.name)
    return found


def own_methods():
    found = set()
    for path in files():
        for node in ast.walk(tree_of(path)):
            if isinstance(node, ast.ClassDef):
                found.update(part.name for part in node.body if isinstance(part, ast.FunctionDef))
    return found


def called(node):
    """The name that is called, or None."""
    if not isinstance(node, ast.Call):
        return None
    return node.func.attr if isinstance(node.func, ast.Attribute) else getattr(node.func, "id", None)


def walked_on_the_spot():
    """All nodes that a loop, a comprehension, a call of L23 or a written text's join walks where they stand."""
    found = []
    for node, _ in nodes():
        if isinstance(node, (ast.For, ast.comprehension)):
            found.append(node.iter)
        elif called(node) in WALKERS and node.args and (called(node) not in ("min", "max") or len(node.args) == 1):
            found.extend(node.args if called(node) == "zip" else node.args[:1])
        elif called(node) == "join" and isinstance(node.func.value, ast.Constant):
            found.extend(node.args)
    return set(found)


def is_changed(node, walked):
    """Whether a node changes what the text of another node tells."""
    if called(node) in CHANGES and isinstance(node.func, ast.Attribute):
        return ast.unparse(node.func.value) == walked
    if isinstance(node, ast.Subscript) and isinstance(node.ctx, ast.Store):
        return ast.unparse(node.value) == walked
    return isinstance(node, ast.AugAssign) and ast.unparse(node.target) == walked


class TestLanguage(unittest.TestCase):
    def test_files(self):
        self.assertIn(PACKAGE / "__init__.py", files())
        for path in files():
            self.assertRegex(path.name, r"\A[a-z_][a-z0-9_]*\.py\Z")
            self.assertNotRegex(path.name, r"\A(test|tests|testing|test_.*|site|conftest|.*customize)\.py\Z")

    def test_size_and_signs(self):
        for path in files():
            text = path.read_bytes().decode("ascii")
            rows = text.split("\n")
            self.assertLessEqual(len(rows), 400, path)
            for row in rows:
                self.assertRegex(row, r"\A[ -~]{0,120}\Z", path)
            self.assertIsNone(re.search(WORDS, text), path)

    def test_functions_are_short(self):
        for node, place in nodes():
            if isinstance(node, ast.FunctionDef):
                self.assertLessEqual(node.end_lineno - node.lineno + 1, 40, place)

    def test_kinds_of_node(self):
        for node, place in nodes():
            self.assertIsInstance(node, STATEMENTS + EXPRESSIONS + SIGNS, place)
            self.assertNotIsInstance(node, (ast.Div, ast.MatMult), place)

    def test_statements(self):
        for node, place in nodes():
            if isinstance(node, ast.Assign):
                self.assertEqual(len(node.targets), 1, place)
            elif isinstance(node, (ast.For, ast.While)):
                self.assertEqual(node.orelse, [], place)
            elif isinstance(node, ast.Try):
                self.assertEqual(node.finalbody, [], place)
            elif isinstance(node, (ast.FunctionDef, ast.ClassDef)):
                self.assertEqual(node.decorator_list, [], place)

    def test_texts_by_themselves_stand_at_the_top_alone(self):
        for path in files():
            tree = tree_of(path)
            for node in ast.walk(tree):
                if isinstance(node, ast.Expr) and node is not tree.body[0]:
                    self.assertIsInstance(node.value, ast.Call, path)

    def test_functions_have_plain_parameters_without_annotations(self):
        for node, place in nodes():
            if isinstance(node, ast.arguments):
                self.assertEqual((node.vararg, node.kwarg), (None, None), place)
                self.assertEqual((node.kwonlyargs, node.posonlyargs), ([], []), place)
            elif isinstance(node, ast.arg):
                self.assertIsNone(node.annotation, place)
            elif isinstance(node, ast.FunctionDef):
                self.assertIsNone(node.returns, place)

    def test_classes(self):
        for path in files():
            for node in ast.walk(tree_of(path)):
                if isinstance(node, ast.ClassDef):
                    self.assertLessEqual(len(node.bases), 1, path)
                    self.assertEqual(node.keywords, [], path)
                    for part in node.body:
                        self.assertIsInstance(part, (ast.FunctionDef, ast.Pass), path)

    def test_imports_name_files_of_the_package_that_define_the_name(self):
        for path in files():
            for node in tree_of(path).body:
                if isinstance(node, ast.ImportFrom):
                    self.assertEqual(node.level, 0, path)
                    self.assertRegex(node.module, r"\Adoorwatch\.[a-z_]+\Z", path)
                    source = tree_of(PACKAGE / (node.module.split(".")[1] + ".py"))
                    defined = [part.name for part in source.body if isinstance(part, (ast.FunctionDef, ast.ClassDef))]
                    defined += [part.targets[0].id for part in source.body if isinstance(part, ast.Assign)]
                    for alias in node.names:
                        self.assertIn(alias.name, defined, path)

    def test_imports_stand_at_the_top_and_never_in_a_ring(self):
        drawn = {}
        for path in files():
            tree = tree_of(path)
            imports = [node for node in ast.walk(tree) if isinstance(node, ast.ImportFrom)]
            self.assertEqual(imports, [node for node in tree.body if isinstance(node, ast.ImportFrom)], path)
            drawn[path.stem] = {node.module.split(".")[1] for node in imports}
        while drawn:
            free = [name for name in drawn if not drawn[name] & set(drawn)]
            self.assertTrue(free, drawn)
            for name in free:
                del drawn[name]

    def test_tops_bind_each_name_once(self):
        for path in files():
            names = []
            for node in tree_of(path).body:
                self.assertIsInstance(node, (ast.Expr, ast.ImportFrom, ast.FunctionDef, ast.ClassDef, ast.Assign), path)
                if isinstance(node, (ast.FunctionDef, ast.ClassDef)):
                    names.append(node.name)
                elif isinstance(node, ast.ImportFrom):
                    names.extend(alias.asname or alias.name for alias in node.names)
                elif isinstance(node, ast.Assign):
                    names.append(node.targets[0].id)
            self.assertEqual(len(names), len(set(names)), path)

    def test_names(self):
        python_own = set(dir(__builtins__) if not isinstance(__builtins__, dict) else __builtins__)
        for path in files():
            tree = tree_of(path)
            bound = bound_names(tree)
            for name in bound:
                if name not in DUNDERS:
                    self.assertRegex(name, r"\A[A-Za-z][A-Za-z0-9_]*\Z", path)
                    self.assertNotIn(name, python_own | UNUSED_NAMES, path)
            for node in ast.walk(tree):
                if isinstance(node, ast.Name) and node.id not in bound:
                    self.assertIn(node.id, BUILT_IN, (path, node.lineno))

    def test_no_local_is_called_like_something_at_the_top(self):
        for path in files():
            tree = tree_of(path)
            tops = [node.name for node in tree.body if isinstance(node, (ast.FunctionDef, ast.ClassDef))]
            tops += [alias.name for node in tree.body if isinstance(node, ast.ImportFrom) for alias in node.names]
            for node in ast.walk(tree):
                if isinstance(node, ast.arg):
                    self.assertNotIn(node.arg, tops, (path, node.lineno))
                elif isinstance(node, ast.Name) and isinstance(node.ctx, ast.Store):
                    self.assertNotIn(node.id, tops, (path, node.lineno))

    def test_methods(self):
        own = own_methods()
        for node, place in nodes():
            if isinstance(node, ast.Attribute):
                self.assertNotIn(node.attr, UNUSED_NAMES, place)
            if isinstance(node, ast.Call) and isinstance(node.func, ast.Attribute):
                self.assertIn(node.func.attr, METHODS | DUNDERS | own, place)

    def test_values_of_objects(self):
        methods = {name for kind in OWN_KINDS for name in dir(kind)} - VALUES_LIKE_METHODS
        for node, place in nodes():
            if isinstance(node, ast.Attribute) and isinstance(node.ctx, ast.Store):
                self.assertIsInstance(node.value, ast.Name, place)
                self.assertNotIn(node.attr, methods | own_methods() | {"args"}, place)

    def test_methods_with_two_underscores(self):
        for node, place in nodes():
            if isinstance(node, ast.FunctionDef) and node.name.startswith("__"):
                self.assertIn(node.name, DUNDERS, place)
                if node.name == "__init__":
                    self.assertFalse([part for part in ast.walk(node) if isinstance(part, ast.Return)], place)

    def test_walked_at_once(self):
        walked = walked_on_the_spot()
        for node, place in nodes():
            if called(node) in WALKED_AT_ONCE:
                self.assertTrue(node in walked, place)

    def test_what_a_loop_walks_is_not_changed_in_it(self):
        for node, place in nodes():
            if isinstance(node, ast.For):
                within = [part for row in node.body for part in ast.walk(row)]
                for walked in ast.walk(node.iter):
                    if isinstance(walked, (ast.Name, ast.Attribute, ast.Subscript)):
                        changes = [part for part in within if is_changed(part, ast.unparse(walked))]
                        self.assertEqual(changes, [], place)

    def test_sets_stand_within_sorted_or_len_alone(self):
        within = {part for node, _ in nodes() if called(node) in ("sorted", "len") for part in ast.walk(node)}
        for node, place in nodes():
            self.assertNotIsInstance(node, ast.Set, place)
            if called(node) in ("set", "frozenset"):
                self.assertTrue(node in within, place)

    def test_keywords(self):
        for node, place in nodes():
            if isinstance(node, ast.Call):
                allowed = KEYWORDS.get(called(node), set()) if isinstance(node.func, ast.Name) else set()
                self.assertLessEqual({keyword.arg for keyword in node.keywords}, allowed, place)

    def test_errors_of_pythons_own_are_not_taken(self):
        for node, place in nodes():
            if isinstance(node, ast.ExceptHandler):
                self.assertIsInstance(node.type, ast.Name, place)
                self.assertNotIn(node.type.id, BUILT_IN - {"KeyError", "ZeroDivisionError", "StopIteration"}, place)

    def test_is_stands_beside_none_true_and_false_alone(self):
        for node, place in nodes():
            if isinstance(node, ast.Compare):
                for sign, right in zip(node.ops, node.comparators):
                    if isinstance(sign, (ast.Is, ast.IsNot)):
                        self.assertIsInstance(right, ast.Constant, place)
                        self.assertIn(right.value, (None, True, False), place)

    def test_values(self):
        for node, place in nodes():
            if isinstance(node, ast.Constant):
                self.assertIsInstance(node.value, (int, str, type(None)), place)
                if isinstance(node.value, str):
                    self.assertNotIn("%", node.value, place)
            elif isinstance(node, ast.ListComp):
                self.assertEqual(len(node.generators), 1, place)
                self.assertLessEqual(len(node.generators[0].ifs), 1, place)
            elif isinstance(node, ast.FormattedValue):
                self.assertIsInstance(node.value, ast.Name, place)
                self.assertIsNone(node.format_spec, place)
            elif isinstance(node, ast.BinOp) and isinstance(node.op, ast.Pow):
                self.assertIsInstance(node.right, ast.Constant, place)
                self.assertIn(node.right.value, range(65), place)

    def test_escapes(self):
        for path in files():
            for escape in re.findall(r"\\.", path.read_text(encoding="utf-8"), re.DOTALL):
                self.assertIn(escape[1], "nt\\'\"", path)


if __name__ == "__main__":
    unittest.main()
