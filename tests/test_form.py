"""The form of the package: those rules of LANGUAGE.md that can be looked up in its files."""

import ast
import builtins
import pathlib
import re
import unittest

PACKAGE = pathlib.Path(__file__).resolve().parent.parent / "strangeseats"
BUILTINS = set(
    "len range enumerate zip min max sum abs sorted reversed int str bool bytes list tuple dict set frozenset "
    "isinstance ord repr any all divmod iter next super property staticmethod classmethod object float Exception "
    "ValueError TypeError KeyError IndexError LookupError ZeroDivisionError ArithmeticError OverflowError "
    "RuntimeError NotImplementedError AttributeError StopIteration NotImplemented".split()
)
METHODS = set(
    "append clear copy count endswith extend find get index insert isalnum isalpha isdigit islower isspace isupper "
    "items join keys ljust lower lstrip partition pop remove replace reverse rfind rjust rpartition rsplit rstrip "
    "setdefault split splitlines startswith strip update upper values zfill bit_length add discard sort title "
    "capitalize isascii isdecimal isnumeric removeprefix removesuffix rindex".split()
)
BARRED = re.compile(
    r"\b(type|typing|typing_extensions|enum|Enum|IntEnum|StrEnum|Flag|IntFlag|Generic|Protocol|ABC|ABCMeta|namedtuple"
    r"|NamedTuple|TypedDict|TYPE_CHECKING|abstractmethod)\b|dataclass|overload|contextmanager"
)
BARRED_STATEMENTS = (
    ast.Global, ast.AsyncFunctionDef, ast.AsyncFor, ast.AsyncWith, ast.Await, ast.Import, ast.TryStar, ast.Div,
)
ALLOWED_DUNDERS = {"__init__", "__len__"}


def files():
    return sorted(PACKAGE.glob("*.py"))


def tree_of(path):
    return ast.parse(path.read_text())


def nodes(kind):
    for path in files():
        for node in ast.walk(tree_of(path)):
            if isinstance(node, kind):
                yield path.name, node


def parents(tree):
    return {child: node for node in ast.walk(tree) for child in ast.iter_child_nodes(node)}


def called_name(node):
    """The builtin or own function that a call calls by its name, else None."""
    return node.func.id if isinstance(node, ast.Call) and isinstance(node.func, ast.Name) else None


def is_join_of_literal(node):
    return (
        isinstance(node, ast.Call) and isinstance(node.func, ast.Attribute) and node.func.attr == "join"
        and isinstance(node.func.value, ast.Constant)
    )


def nodes_with_parents(kind):
    for path in files():
        tree = tree_of(path)
        above = parents(tree)
        for node in ast.walk(tree):
            if isinstance(node, kind):
                yield path.name, node, above


def methods_and_attributes():
    methods, attributes = set(), set()
    for _, made in nodes(ast.ClassDef):
        methods.update(node.name for node in made.body if isinstance(node, ast.FunctionDef))
    for _, node in nodes(ast.Attribute):
        if isinstance(node.ctx, ast.Store):
            attributes.add(node.attr)
    return methods, attributes


def is_bare_len(method):
    """Whether the body of a method is the one statement `return len(..)`; a docstring ahead counts as another."""
    if len(method.body) != 1 or not isinstance(method.body[0], ast.Return):
        return False
    return called_name(method.body[0].value) == "len"


def asks_for_lists(made):
    """Whether a class has `__eq__`, or a `__len__` that is more than `return len(..)`."""
    methods = [node for node in ast.walk(made) if isinstance(node, (ast.FunctionDef, ast.AsyncFunctionDef))]
    return any(
        method.name == "__eq__" or method.name == "__len__" and not is_bare_len(method) for method in methods
    )


def generators_taken(trees):
    """(file, row, builtin) of each generator expression that must be a list by L7; trees by the names of files."""
    walked = [(name, node) for name in sorted(trees) for node in ast.walk(trees[name])]
    if not any(isinstance(node, ast.ClassDef) and asks_for_lists(node) for name, node in walked):
        return []
    found = []
    for name, node in walked:
        if called_name(node) in {"any", "all", "min", "max", "sum", "sorted"}:
            if any(isinstance(part, ast.GeneratorExp) for part in node.args):
                found.append((name, node.lineno, called_name(node)))
    return found


class Files(unittest.TestCase):
    def test_the_folder_has_plainly_named_files_alone(self):
        for path in PACKAGE.iterdir():
            if path.name != "__pycache__":
                self.assertRegex(path.name, r"^(__init__|__main__|[a-z][a-z0-9_]*)\.py$")

    def test_signs(self):
        for path in files():
            text = path.read_text()
            self.assertRegex(text, r"\A[ -~\n]+\Z", path.name)
            self.assertIsNone(BARRED.search(text), path.name)

    def test_sizes(self):
        for path in files():
            rows = path.read_text().splitlines()
            self.assertLessEqual(len(rows), 400, path.name)
            self.assertLessEqual(max(len(row) for row in rows), 120, path.name)
        for name, node in nodes((ast.FunctionDef, ast.Lambda)):
            self.assertLessEqual(node.end_lineno - node.lineno + 1, 40, (name, node.lineno))

    def test_imports(self):
        defined = {}
        for path in files():
            made = [node.name for node in tree_of(path).body if isinstance(node, (ast.FunctionDef, ast.ClassDef))]
            defined["strangeseats." + path.stem] = made + [
                target.id for node in tree_of(path).body if isinstance(node, ast.Assign) for target in node.targets
            ]
        for name, node in nodes(ast.ImportFrom):
            self.assertEqual(node.level, 0, name)
            for told in node.names:
                self.assertIn(told.name, defined.get(node.module, ()), (name, node.lineno))

    def test_no_two_files_import_from_each_other(self):
        sources = {path.stem: set() for path in files()}
        for name, node in nodes(ast.ImportFrom):
            sources[name[:-3]].add(node.module.split(".")[-1])
        while sources:
            free = [name for name in sources if not sources[name] & set(sources)]
            self.assertTrue(free, sources)
            for name in free:
                del sources[name]


class Rows(unittest.TestCase):
    def test_statements(self):
        for name, node in nodes(BARRED_STATEMENTS):
            self.fail((name, getattr(node, "lineno", None), node))

    def test_module_level(self):
        allowed = (ast.ImportFrom, ast.FunctionDef, ast.ClassDef, ast.Assign)
        for path in files():
            for at, node in enumerate(tree_of(path).body):
                docstring = at == 0 and isinstance(node, ast.Expr) and isinstance(node.value, ast.Constant)
                self.assertTrue(docstring or isinstance(node, allowed), (path.name, node.lineno))

    def test_names(self):
        for name, node in nodes((ast.FunctionDef, ast.ClassDef)):
            self.assertTrue(not node.name.startswith("_") or node.name in ALLOWED_DUNDERS, (name, node.name))
        for name, node in nodes((ast.Name, ast.arg)):
            told = node.id if isinstance(node, ast.Name) else node.arg
            self.assertFalse(told.startswith("_"), (name, node.lineno))
            if isinstance(node, ast.arg) or isinstance(node.ctx, ast.Store):
                self.assertNotIn(told, dir(builtins), (name, node.lineno))

    def test_builtins(self):
        for name, node in nodes(ast.Name):
            if node.id in dir(builtins):
                self.assertIn(node.id, BUILTINS, (name, node.lineno))

    def test_called_methods(self):
        methods, _ = methods_and_attributes()
        for name, node in nodes(ast.Call):
            if isinstance(node.func, ast.Attribute):
                self.assertIn(node.func.attr, METHODS | methods | {"__init__"}, (name, node.lineno))

    def test_no_name_is_a_method_and_an_attribute(self):
        methods, attributes = methods_and_attributes()
        self.assertEqual(methods & attributes, set())

    def test_identity_is_asked_of_constants_alone(self):
        for name, node in nodes(ast.Compare):
            for sign, right in zip(node.ops, node.comparators):
                if isinstance(sign, (ast.Is, ast.IsNot)):
                    self.assertIsInstance(right, ast.Constant, (name, node.lineno))

    def test_no_local_name_is_that_of_an_import_or_a_class(self):
        for path in files():
            tree = tree_of(path)
            barred = {told.asname or told.name for node in tree.body if isinstance(node, ast.ImportFrom) for told in node.names}
            barred |= {node.name for node in tree.body if isinstance(node, ast.ClassDef)}
            for node in ast.walk(tree):
                if isinstance(node, ast.arg):
                    self.assertNotIn(node.arg, barred, (path.name, node.lineno))
                if isinstance(node, ast.Name) and isinstance(node.ctx, ast.Store):
                    self.assertNotIn(node.id, barred, (path.name, node.lineno))

    def test_no_local_name_is_that_of_a_function_of_its_file(self):
        for path in files():
            tree = tree_of(path)
            made = {node.name for node in tree.body if isinstance(node, ast.FunctionDef)}
            for node in ast.walk(tree):
                if isinstance(node, ast.arg):
                    self.assertNotIn(node.arg, made, (path.name, node.lineno))
                if isinstance(node, ast.Name) and isinstance(node.ctx, ast.Store):
                    self.assertNotIn(node.id, made, (path.name, node.lineno))

    def test_all_that_is_imported_is_used(self):
        for path in files():
            tree = tree_of(path)
            used = {node.id for node in ast.walk(tree) if isinstance(node, ast.Name)}
            for node in tree.body:
                if isinstance(node, ast.ImportFrom):
                    for told in node.names:
                        self.assertIn(told.name, used, path.name)

    def test_attributes_read_are_assigned_by_some_class(self):
        methods, attributes = methods_and_attributes()
        for name, node, above in nodes_with_parents(ast.Attribute):
            called = isinstance(above[node], ast.Call) and above[node].func is node
            if isinstance(node.ctx, ast.Load) and not called:
                self.assertIn(node.attr, attributes, (name, node.lineno))

    def test_what_is_iterated_at_once(self):
        takers = {"list", "tuple", "dict", "sorted", "sum", "any", "all", "enumerate", "zip", "min", "max"}
        for name, node, above in nodes_with_parents(ast.Call):
            told = called_name(node) or (node.func.attr if isinstance(node.func, ast.Attribute) and not node.args else "")
            if told in {"zip", "enumerate", "reversed", "range", "items", "keys", "values"}:
                parent = above[node]
                iterated = isinstance(parent, (ast.For, ast.comprehension)) and parent.iter is node
                taken = called_name(parent) in takers or is_join_of_literal(parent)
                asked = told == "range" and isinstance(parent, ast.Compare)
                self.assertTrue(iterated or taken or asked, (name, node.lineno))

    def test_generator_expressions(self):
        takers = {"list", "tuple", "dict", "sorted", "sum", "any", "all", "min", "max"}
        for name, node, above in nodes_with_parents(ast.GeneratorExp):
            self.assertTrue(called_name(above[node]) in takers or is_join_of_literal(above[node]), (name, node.lineno))
        self.assertEqual(list(nodes((ast.Yield, ast.YieldFrom))), [])

    def test_sets_stand_in_len_and_sorted_or_are_compared(self):
        for name, node, above in nodes_with_parents((ast.Set, ast.SetComp, ast.Call)):
            if not isinstance(node, ast.Call) or called_name(node) in {"set", "frozenset"}:
                parent = above[node]
                self.assertTrue(
                    called_name(parent) in {"len", "sorted"} or isinstance(parent, ast.Compare), (name, node.lineno)
                )

    def test_errors_are_made_where_they_are_raised_and_caught_by_name(self):
        made = {node.name for name, node in nodes(ast.ClassDef) if name == "errors.py"}
        for name, node in nodes(ast.Raise):
            self.assertTrue(node.exc is None or called_name(node.exc) in made, (name, node.lineno))
        for name, node in nodes(ast.ExceptHandler):
            self.assertIsInstance(node.type, ast.Name, (name, node.lineno))
            self.assertIn(node.type.id, made, (name, node.lineno))

    def test_nothing_that_a_loop_goes_through_is_changed_in_it(self):
        changing = {"append", "clear", "extend", "insert", "pop", "remove", "reverse", "setdefault", "update", "sort"}
        for name, node in nodes(ast.For):
            through = ast.dump(node.iter)
            for part in [part for row in node.body for part in ast.walk(row)]:
                if isinstance(part, ast.Call) and isinstance(part.func, ast.Attribute) and part.func.attr in changing:
                    self.assertNotEqual(ast.dump(part.func.value), through, (name, node.lineno))

    def test_keywords_of_builtins(self):
        allowed = {"sorted": {"key", "reverse"}, "min": {"key", "default"}, "max": {"key", "default"}}
        for name, node in nodes(ast.Call):
            told = called_name(node)
            if told in dir(builtins):
                for keyword in node.keywords:
                    self.assertIn(keyword.arg, allowed.get(told, set()), (name, node.lineno))

    def test_no_decorators_and_no_places_alone(self):
        for name, node in nodes((ast.FunctionDef, ast.ClassDef)):
            self.assertEqual(node.decorator_list, [], (name, node.lineno))
        for name, node in nodes(ast.arguments):
            self.assertEqual(node.posonlyargs, [], name)

    def test_literals(self):
        for name, node in nodes(ast.Constant):
            self.assertNotIsInstance(node.value, (float, complex), (name, node.lineno))
            if isinstance(node.value, str):
                self.assertNotIn("%", node.value, (name, node.lineno))


class ListsForGenerators(unittest.TestCase):
    """L7: beside `__eq__`, or a `__len__` other than `return len(..)`, some builtins take a list."""

    BARE = "class Box:\n    def __len__(self):\n        return len(self.rows)\n"
    ASKING = (
        'class Box:\n    def __len__(self):\n        """How many."""\n        return len(self.rows)\n',
        "class Box:\n    def __len__(self):\n        return 3\n",
        "class Box:\n    def __len__(self):\n        return\n",
        "class Box:\n    def __len__(self):\n        return len(self.rows) + 1\n",
        "class Box:\n    def __len__(self):\n        return self.len()\n",
        "class Box:\n    def __len__(self):\n        rows = self.rows\n        return len(rows)\n",
        "class Box:\n    def __len__(self):\n        if self.rows:\n            return len(self.rows)\n        return 0\n",
        "class Box:\n    def __eq__(self, other):\n        return self.n == other.n\n",
        BARE + "    def __eq__(self, other):\n        return self.n == other.n\n",
        BARE + "class Crate:\n    def __len__(self):\n        pass\n        return len(self.rows)\n",
    )
    QUIET = (
        "",
        BARE,
        "class Box:\n    def __init__(self):\n        self.rows = []\n",
        "class Box:\n    # How many.\n    def __len__(self):\n        return len(self.rows)  # of all\n",
    )
    TAKERS = ("any", "all", "min", "max", "sum", "sorted")

    def taken(self, classes, row):
        """What is found where one file has these classes, and another one this row."""
        return generators_taken({"box.py": ast.parse(classes), "rows.py": ast.parse(row)})

    def test_the_package_keeps_the_rule(self):
        self.assertEqual(generators_taken({path.name: tree_of(path) for path in files()}), [])

    def test_each_class_that_asks_for_lists_is_seen(self):
        for classes in self.ASKING:
            with self.subTest(classes=classes):
                self.assertEqual(self.taken(classes, "any(x for x in xs)"), [("rows.py", 1, "any")])

    def test_other_classes_ask_for_none(self):
        for classes in self.QUIET:
            with self.subTest(classes=classes):
                self.assertEqual(self.taken(classes, "any(x for x in xs)"), [])

    def test_each_builtin_of_the_rule_is_seen(self):
        for taker in self.TAKERS:
            with self.subTest(taker=taker):
                found = [("rows.py", 2, taker)]
                self.assertEqual(self.taken(self.ASKING[0], f"\ny = not {taker}(x for x in xs)"), found)
                self.assertEqual(self.taken(self.ASKING[0], f"\ny = tuple({taker}((x for x in xs), key=f))"), found)
                self.assertEqual(self.taken(self.ASKING[0], f"\ndef f(xs):\n    return [{taker}([x for x in xs])]"), [])

    def test_the_class_and_the_row_may_stand_in_one_file(self):
        for classes in self.ASKING:
            with self.subTest(classes=classes):
                tree = ast.parse(classes + "def f(xs):\n    return all(x for x in xs)\n")
                self.assertEqual(generators_taken({"box.py": tree}), [("box.py", classes.count("\n") + 2, "all")])

    def test_other_takers_and_lists_are_free(self):
        rows = ("any(xs)", "any([x for x in xs])", "tuple(x for x in xs)", "','.join(x for x in xs)", "max(0, n)")
        for row in rows:
            with self.subTest(row=row):
                self.assertEqual(self.taken(self.ASKING[0], row), [])


if __name__ == "__main__":
    unittest.main()
