"""The form of the package's files, and with it point 2: nothing hangs on a clock, chance or files."""

import ast
import builtins
import pathlib
import re
import unittest

PACKAGE = pathlib.Path(__file__).resolve().parent.parent / "tuningyard"

OWN_NAMES = set("""
len range enumerate zip min max sum abs sorted reversed int str bool list tuple dict set frozenset isinstance ord
repr any all divmod Exception ValueError TypeError KeyError IndexError LookupError ZeroDivisionError ArithmeticError
OverflowError RuntimeError NotImplementedError AttributeError StopIteration
""".split())

METHODS = set("""
append clear copy count endswith extend find get index insert isalnum isalpha isdigit islower isspace isupper items
join keys ljust lower lstrip partition pop remove replace reverse rfind rjust rpartition rsplit rstrip setdefault
split splitlines startswith strip update upper values zfill bit_length
""".split())

KINDS = set("""
Module Expr Assign AugAssign If While For Return Break Continue Pass Raise Try ExceptHandler FunctionDef ClassDef
arguments arg Lambda ImportFrom alias BinOp UnaryOp BoolOp Compare IfExp Call keyword Attribute Subscript Slice Name
Constant List Tuple Dict Set ListComp comprehension JoinedStr FormattedValue Load Store
Add Sub Mult FloorDiv Mod Pow BitAnd BitOr BitXor LShift RShift Invert USub UAdd Not And Or
Eq NotEq Lt LtE Gt GtE Is IsNot In NotIn
""".split())

WORDS = re.compile(r"""\b(?:type|typing|typing_extensions|enum|Enum|IntEnum|StrEnum|Flag|IntFlag|Generic|Protocol
|ABC|ABCMeta|namedtuple|NamedTuple|TypedDict|TYPE_CHECKING|abstractmethod)\b|dataclass|overload|contextmanager""", re.X)


UNUSED = set("""
register mro elements open input version_info with_traceback add_note attrgetter breakpoint builtins compile copyright
credits delattr dir eval exec exit gc getattr globals hasattr help id importlib license locals methodcaller os quit
setattr super type vars sys format format_map
""".split())

# Values of an object may also be called like these methods of Python's own values, and like no others.
FIELDS_TOO = set("count index title find get join lower upper split strip copy add".split())
METHODS_TOO = METHODS | {"add", "discard"}
PYTHONS_OWN = {name for kind in (str, int, list, dict, set, tuple, bytes, ValueError) for name in dir(kind)}

WALKERS = ("zip", "enumerate", "reversed", "range")
WALKING_METHODS = ("items", "keys", "values")
WALKED_FIRST_IN = ("list", "tuple", "dict", "sorted", "sum", "any", "all", "enumerate", "zip", "min", "max")
KEYWORDS = {
    "sorted": ("key", "reverse"), "min": ("key", "default"), "max": ("key", "default"), "sum": ("start",),
    "enumerate": ("start",), "zip": ("strict",),
}


def trees():
    """Each file of the package by its module's name, as a tree."""
    found = {}
    for path in sorted(PACKAGE.glob("*.py")):
        found[f"tuningyard.{path.stem}"] = ast.parse(path.read_text(encoding="utf-8"))
    return found


def nodes():
    """Each place of the package's files, as a pair (where, node)."""
    return [
        (f"{name}:{getattr(node, 'lineno', 0)}", node)
        for name, tree in trees().items()
        for node in ast.walk(tree)
    ]


def bound_at_top(tree):
    """The names that a file defines at its top, imports left out."""
    names = []
    for statement in tree.body:
        if isinstance(statement, (ast.FunctionDef, ast.ClassDef)):
            names.append(statement.name)
        elif isinstance(statement, ast.Assign):
            names.extend(target.id for target in statement.targets)
    return names


def functions_as_texts(tree, statement):
    """An assignment's value, with a text in the place of each name of a function that is defined above it."""
    above = [entry.name for entry in tree.body[:tree.body.index(statement)] if isinstance(entry, ast.FunctionDef)]

    class Texts(ast.NodeTransformer):
        def visit_Name(self, node):
            return ast.Constant(node.id) if node.id in above else node

    return Texts().visit(statement.value)


def parents(tree):
    """Each node's own parent."""
    return {child: node for node in ast.walk(tree) for child in ast.iter_child_nodes(node)}


def called(node):
    """The plain name that a call calls, else None."""
    return node.func.id if isinstance(node, ast.Call) and isinstance(node.func, ast.Name) else None


def is_walker(node):
    """Whether a node is a call whose answer is to be walked on the spot."""
    if called(node) in WALKERS:
        return True
    return isinstance(node, ast.Call) and isinstance(node.func, ast.Attribute) and node.func.attr in WALKING_METHODS


def classes():
    """Each class of the package by its name."""
    return {node.name: node for _, node in nodes() if isinstance(node, ast.ClassDef)}


def methods_of(node):
    """The names of a class's methods."""
    return [statement.name for statement in node.body if isinstance(statement, ast.FunctionDef)]


def fields():
    """The names of all values that are given to an object, each with its place."""
    return [
        (where, node.attr) for where, node in nodes()
        if isinstance(node, ast.Attribute) and isinstance(node.ctx, ast.Store)
    ]


def names_in(node):
    """The names of a handler's error classes."""
    return [entry.id for entry in (node.elts if isinstance(node, ast.Tuple) else [node])]


class Files(unittest.TestCase):
    def test_only_plain_files_lie_there(self):
        for path in PACKAGE.iterdir():
            if path.name != "__pycache__":
                self.assertRegex(path.name, r"\A(__init__|[a-z][a-z0-9_]*)\.py\Z")
                self.assertNotIn(path.stem, [name for name in dir(builtins) if not name.startswith("_")])
                self.assertNotRegex(path.stem, r"\A(test.*|site|conftest|sitecustomize|usercustomize)\Z")

    def test_signs_rows_and_words(self):
        for path in PACKAGE.glob("*.py"):
            text = path.read_bytes().decode("utf-8")
            self.assertEqual([sign for sign in text if sign != "\n" and not " " <= sign <= "~"], [], path.name)
            self.assertLessEqual(text.count("\n"), 400, path.name)
            self.assertLessEqual(max(len(row) for row in text.split("\n")), 120, path.name)
            self.assertIsNone(WORDS.search(text), path.name)


class Imports(unittest.TestCase):
    def test_own_modules_alone_from_the_defining_file(self):
        found = trees()
        for where, node in nodes():
            if isinstance(node, ast.ImportFrom):
                with self.subTest(where=where):
                    self.assertEqual(node.level, 0)
                    self.assertIn(node.module, found)
                    for entry in node.names:
                        self.assertIn(entry.name, bound_at_top(found[node.module]))

    def test_no_two_files_draw_from_one_another(self):
        draws = {
            name: {node.module for node in ast.walk(tree) if isinstance(node, ast.ImportFrom)}
            for name, tree in trees().items()
        }
        self.assertEqual(draws.pop("tuningyard.__init__"), set())
        while draws:
            ready = [name for name in draws if not draws[name] & set(draws)]
            self.assertNotEqual(ready, [], draws)
            for name in ready:
                draws.pop(name)


class Tops(unittest.TestCase):
    def test_only_plain_values_stand_at_the_top(self):
        for name, tree in trees().items():
            for statement in tree.body[1:]:
                self.assertIsInstance(statement, (ast.ImportFrom, ast.FunctionDef, ast.ClassDef, ast.Assign), name)
                if isinstance(statement, ast.Assign):
                    plain = ast.literal_eval(functions_as_texts(tree, statement))
                    within = plain.values() if isinstance(plain, dict) else plain if isinstance(plain, list) else []
                    self.assertFalse([entry for entry in within if isinstance(entry, (list, dict, set))], name)

    def test_each_file_begins_with_its_docstring(self):
        for name, tree in trees().items():
            self.assertIsNotNone(ast.get_docstring(tree), name)

    def test_classes_hold_methods_alone(self):
        for where, node in nodes():
            if isinstance(node, ast.ClassDef):
                self.assertLessEqual(len(node.bases), 1, where)
                self.assertIsNotNone(ast.get_docstring(node), where)
                for statement in node.body[1:]:
                    self.assertIsInstance(statement, ast.FunctionDef, where)

    def test_no_parameter_or_local_is_called_like_an_import_or_a_class(self):
        for name, tree in trees().items():
            taken = {entry.name for node in tree.body if isinstance(node, ast.ImportFrom) for entry in node.names}
            taken |= {node.name for node in tree.body if isinstance(node, (ast.ClassDef, ast.FunctionDef))}
            for node in ast.walk(tree):
                if isinstance(node, ast.Name) and isinstance(node.ctx, ast.Store):
                    self.assertNotIn(node.id, taken, f"{name}:{node.lineno}")
                if isinstance(node, ast.arg):
                    self.assertNotIn(node.arg, taken, f"{name}:{node.lineno}")


class Objects(unittest.TestCase):
    def test_methods_stand_once_and_have_free_names(self):
        for name, node in classes().items():
            found = methods_of(node)
            self.assertEqual(sorted(set(found)), sorted(found), name)
            for method in found:
                if method != "__init__":
                    self.assertNotIn(method, PYTHONS_OWN - METHODS_TOO, name)

    def test_values_have_free_names(self):
        self.assertNotEqual(fields(), [])
        for where, name in fields():
            self.assertNotIn(name, PYTHONS_OWN - FIELDS_TOO, where)

    def test_no_name_is_a_method_and_a_value(self):
        methods = {name for node in classes().values() for name in methods_of(node)}
        self.assertEqual([(where, name) for where, name in fields() if name in methods], [])

    def test_values_are_given_through_local_names(self):
        tops = {name for tree in trees().values() for name in bound_at_top(tree)}
        for where, node in nodes():
            if isinstance(node, ast.Attribute) and isinstance(node.ctx, ast.Store):
                self.assertIsInstance(node.value, ast.Name, where)
                self.assertNotIn(node.value.id, tops, where)

    def test_classes_are_called_or_taken_but_not_kept(self):
        own = set(classes())
        for name, tree in trees().items():
            above = parents(tree)
            for node in ast.walk(tree):
                if isinstance(node, ast.Name) and node.id in own:
                    parent = above[node]
                    if isinstance(parent, ast.Tuple):
                        parent = above[parent]
                    made = isinstance(parent, ast.Call) and parent.func is node
                    asked = called(parent) == "isinstance"
                    base = isinstance(parent, ast.Attribute) and parent.attr == "__init__"
                    stands = isinstance(parent, (ast.ClassDef, ast.ExceptHandler))
                    self.assertTrue(made or asked or base or stands, f"{name}:{node.lineno}")

    def test_init_gives_back_nothing(self):
        for where, node in nodes():
            if isinstance(node, ast.FunctionDef) and node.name == "__init__":
                self.assertFalse([entry for entry in ast.walk(node) if isinstance(entry, ast.Return)], where)


class Errors(unittest.TestCase):
    def test_own_errors_alone_are_taken(self):
        own = set(bound_at_top(trees()["tuningyard.errors"]))
        for where, node in nodes():
            if isinstance(node, ast.ExceptHandler):
                self.assertLessEqual(set(names_in(node.type)), own, where)
            if isinstance(node, ast.Try):
                self.assertEqual(node.finalbody, [], where)

    def test_raised_on_the_spot(self):
        own = set(bound_at_top(trees()["tuningyard.errors"]))
        for where, node in nodes():
            if isinstance(node, ast.Raise):
                self.assertIn(called(node.exc), own, where)
                if node.cause is not None:
                    self.assertIsInstance(node.cause, ast.Constant, where)


class Language(unittest.TestCase):
    def test_lambdas_with_the_same_parameters_stand_on_lines_of_their_own(self):
        seen = [
            (where, tuple(entry.arg for entry in node.args.args))
            for where, node in nodes() if isinstance(node, ast.Lambda)
        ]
        self.assertEqual(len(set(seen)), len(seen))

    def test_what_a_loop_walks_is_not_changed_in_it(self):
        changing = ("append", "clear", "extend", "insert", "pop", "remove", "reverse", "setdefault", "update")
        for where, node in nodes():
            if isinstance(node, ast.For):
                walked = {entry.id for entry in ast.walk(node.iter) if isinstance(entry, ast.Name)}
                for entry in [entry for statement in node.body for entry in ast.walk(statement)]:
                    if isinstance(entry, ast.Attribute) and entry.attr in changing:
                        self.assertNotIn(getattr(entry.value, "id", None), walked, where)
                    if isinstance(entry, ast.Subscript) and isinstance(entry.ctx, ast.Store):
                        self.assertNotIn(getattr(entry.value, "id", None), walked, where)

    def test_methods_are_called_where_they_stand(self):
        for name, tree in trees().items():
            above = parents(tree)
            own = {method for node in classes().values() for method in methods_of(node)}
            for node in ast.walk(tree):
                if isinstance(node, ast.Attribute) and node.attr in own | METHODS:
                    self.assertIs(getattr(above[node], "func", None), node, f"{name}:{node.lineno}")

    def test_one_target_in_an_assignment(self):
        for where, node in nodes():
            if isinstance(node, ast.Assign):
                self.assertEqual(len(node.targets), 1, where)
                self.assertIsInstance(node.targets[0], (ast.Name, ast.Attribute, ast.Subscript), where)

    def test_no_annotations(self):
        for where, node in nodes():
            if isinstance(node, ast.arg):
                self.assertIsNone(node.annotation, where)
            if isinstance(node, ast.FunctionDef):
                self.assertIsNone(node.returns, where)

    def test_names_that_are_not_used(self):
        for where, node in nodes():
            for name in [getattr(node, part, None) for part in ("id", "arg", "attr", "name")]:
                self.assertNotIn(name, UNUSED, where)

    def test_walked_on_the_spot(self):
        for name, tree in trees().items():
            above = parents(tree)
            for node in ast.walk(tree):
                if is_walker(node):
                    parent = above[node]
                    walked = isinstance(parent, (ast.For, ast.comprehension)) and parent.iter is node
                    first = called(parent) in WALKED_FIRST_IN and parent.args[0] is node
                    self.assertTrue(walked or first, f"{name}:{node.lineno}")

    def test_keywords(self):
        own = {name for tree in trees().values() for name in bound_at_top(tree)}
        for where, node in nodes():
            if isinstance(node, ast.Call) and node.keywords and called(node) not in own:
                for keyword in node.keywords:
                    self.assertIn(keyword.arg, KEYWORDS.get(called(node), ()), where)

    def test_comprehensions_walk_once(self):
        for where, node in nodes():
            if isinstance(node, ast.ListComp):
                self.assertEqual(len(node.generators), 1, where)
                self.assertLessEqual(len(node.generators[0].ifs), 1, where)

    def test_no_sets_are_kept(self):
        for where, node in nodes():
            self.assertNotIsInstance(node, ast.Set, where)
            self.assertNotIn(called(node), ("set", "frozenset", "chr"), where)

    def test_kinds_of_statements_and_expressions(self):
        for where, node in nodes():
            self.assertIn(type(node).__name__, KINDS, where)

    def test_values(self):
        for where, node in nodes():
            if isinstance(node, ast.Constant):
                self.assertIn(type(node.value), (int, str, bool, type(None)), where)
                self.assertNotIn("%", str(node.value), where)

    def test_exponents_are_written(self):
        for where, node in nodes():
            if isinstance(node, ast.BinOp) and isinstance(node.op, ast.Pow):
                self.assertIsInstance(node.right, ast.Constant, where)
                self.assertIn(node.right.value, range(65), where)

    def test_names_of_pythons_own(self):
        for where, node in nodes():
            if isinstance(node, ast.Name) and hasattr(builtins, node.id):
                self.assertIsInstance(node.ctx, ast.Load, where)
                self.assertIn(node.id, OWN_NAMES, where)
            if isinstance(node, ast.arg):
                self.assertFalse(hasattr(builtins, node.arg), where)

    def test_names_are_plain(self):
        for where, node in nodes():
            names = [getattr(node, part, None) for part in ("id", "arg", "attr", "name")]
            for name in names:
                if name is not None and name != "__init__":
                    self.assertFalse(name.startswith("_"), f"{where} {name}")

    def test_names_are_bound_once_at_the_top(self):
        for name, tree in trees().items():
            names = bound_at_top(tree)
            self.assertEqual(sorted(set(names)), sorted(names), name)

    def test_methods(self):
        own = {node.name for _, node in nodes() if isinstance(node, ast.FunctionDef)}
        for where, node in nodes():
            if isinstance(node, ast.Call) and isinstance(node.func, ast.Attribute):
                self.assertIn(node.func.attr, METHODS | own, where)

    def test_functions_are_small_and_plain(self):
        for where, node in nodes():
            if isinstance(node, ast.FunctionDef):
                self.assertLessEqual(node.end_lineno - node.lineno + 1, 40, where)
                self.assertEqual(node.decorator_list, [], where)
                self.assertEqual((node.args.vararg, node.args.kwarg, node.args.kwonlyargs), (None, None, []), where)

    def test_is_stands_beside_none_true_and_false(self):
        for where, node in nodes():
            if isinstance(node, ast.Compare) and any(isinstance(op, (ast.Is, ast.IsNot)) for op in node.ops):
                self.assertIsInstance(node.comparators[-1], ast.Constant, where)
                self.assertIn(node.comparators[-1].value, (None, True, False), where)


if __name__ == "__main__":
    unittest.main()
