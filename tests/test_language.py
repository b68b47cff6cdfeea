"""The rules of the language that the files of the package keep, as far as a look at the code shows them."""

import ast
import builtins
import os
import re
import unittest

FOLDER = os.path.join(os.path.dirname(os.path.dirname(os.path.abspath(__file__))), "curveboxes")
ALLOWED = set(
    "len range enumerate zip min max sum abs sorted reversed int str bool bytes list tuple dict set frozenset isinstance"
    " ord repr any all divmod pow Exception ValueError TypeError KeyError IndexError LookupError ZeroDivisionError"
    " ArithmeticError OverflowError RuntimeError NotImplementedError AttributeError super property staticmethod"
    " classmethod NotImplemented iter next getattr hasattr setattr".split()
)
METHODS = set(
    "append clear copy count endswith extend find get index insert isalnum isalpha isdigit islower isspace isupper items"
    " join keys ljust lower lstrip partition pop remove replace reverse rfind rjust rpartition rsplit rstrip setdefault"
    " split splitlines startswith strip update upper values zfill bit_length isascii __init__".split()
)
DOUBLE = set(
    "init eq repr str len enter exit call iter lt le gt ge ne add sub mul floordiv mod pow and or xor lshift rshift neg"
    " pos invert abs bool contains getitem setitem".split()
)
BARRED = (
    "type typing typing_extensions enum Enum IntEnum StrEnum Flag IntFlag Generic Protocol ABC ABCMeta namedtuple"
    " NamedTuple TypedDict TYPE_CHECKING abstractmethod"
).split()
NAMES_BARRED = set("register mro elements open input law version_info with_traceback add_note".split())
STATEMENTS = (
    ast.Assign, ast.AugAssign, ast.If, ast.While, ast.For, ast.Return, ast.Break, ast.Continue, ast.Pass, ast.Raise,
    ast.Assert, ast.Delete, ast.Nonlocal, ast.With, ast.Expr, ast.Try, ast.FunctionDef, ast.ClassDef, ast.ImportFrom,
)
PLAIN_CALLS = ("int", "len", "ord", "str", "repr")


def files():
    found = {}
    for name in sorted(os.listdir(FOLDER)):
        if name != "__pycache__":
            with open(os.path.join(FOLDER, name), "rb") as held:
                found[name] = held.read().decode("ascii")
    return found


FILES = files()
TREES = {name: ast.parse(text) for name, text in FILES.items()}
ERRORS = [node.name for node in TREES["errors.py"].body if isinstance(node, ast.ClassDef)]


def nodes(*kinds):
    for name, tree in TREES.items():
        for node in ast.walk(tree):
            if isinstance(node, kinds):
                yield f"{name}:{getattr(node, 'lineno', 0)}", node


def called(node):
    return node.func.id if isinstance(node, ast.Call) and isinstance(node.func, ast.Name) else None


def is_generator(node):
    return any(isinstance(part, (ast.Yield, ast.YieldFrom)) for part in ast.walk(node))


def is_setter(node):
    return [part.attr for part in node.decorator_list if isinstance(part, ast.Attribute)] == ["setter"]


def tree_targets(tree):
    """The names that are assigned at module level."""
    return [target for node in tree.body if isinstance(node, ast.Assign) for target in node.targets]


def is_plain(node):
    """Whether an argument of sorted, min or max is plainly a number or a string, or a list of such."""
    if isinstance(node, ast.ListComp):
        return is_plain(node.elt)
    return isinstance(node, ast.Constant) or called(node) in (*PLAIN_CALLS, "range")


class Files(unittest.TestCase):
    def test_names_and_sizes(self):
        self.assertIn("__init__.py", FILES)
        for name, text in FILES.items():
            self.assertRegex(name, r"^[a-z_0-9]+\.py$")
            self.assertNotIn(name[:-3], dir(builtins))
            lines = text.split("\n")
            self.assertLessEqual(len(lines) - 1, 399, name)
            for at, line in enumerate(lines):
                self.assertLessEqual(len(line), 120, f"{name}:{at + 1}")
            self.assertRegex(text, r"^[ -~\n]*$", name)
            self.assertEqual(text[-1], "\n")

    def test_functions_are_short(self):
        for where, node in nodes(ast.FunctionDef):
            self.assertLessEqual(node.end_lineno - node.lineno + 1, 40, where)

    def test_barred_words(self):
        for where, node in nodes(ast.Constant, ast.Name, ast.Attribute, ast.arg, ast.FunctionDef, ast.ClassDef):
            parts = [getattr(node, part, None) for part in ("id", "attr", "arg", "name")]
            for word in [part for part in parts if isinstance(part, str)]:
                self.assertNotIn(word, [*BARRED, *NAMES_BARRED], where)
                self.assertFalse(word.startswith(("_wall", "_pe_", "_dcw_", "_enum_", "_cm_")), where)
        for name, text in FILES.items():
            for word in ("(type)", "Meta", "metaclass=", "_wall", "dataclass", "overload", "contextmanager"):
                self.assertNotIn(word, text, name)

    def test_strings(self):
        docs = set()
        for _, node in nodes(ast.Module, ast.ClassDef, ast.FunctionDef):
            if node.body and isinstance(node.body[0], ast.Expr):
                docs.add(node.body[0].value)
        for where, node in nodes(ast.Constant):
            if isinstance(node.value, str):
                self.assertNotIn("%", node.value, where)
                self.assertFalse(node.value.endswith(("._", ".__")), where)
                if node not in docs:
                    self.assertFalse(set(re.findall(r"\w+", node.value)) & set(BARRED), where)
            self.assertNotIsInstance(node.value, (float, complex), where)


class Modules(unittest.TestCase):
    def test_what_stands_at_module_level(self):
        for name, tree in TREES.items():
            bound = []
            for at, node in enumerate(tree.body):
                where = f"{name}:{node.lineno}"
                if isinstance(node, ast.Expr):
                    self.assertTrue(at == 0 and isinstance(node.value, ast.Constant), where)
                elif isinstance(node, ast.Assign):
                    self.assertTrue(len(node.targets) == 1 and isinstance(node.targets[0], ast.Name), where)
                    inner = (ast.Constant, ast.Tuple, ast.BinOp, ast.operator, ast.unaryop, ast.UnaryOp, ast.Load)
                    for part in ast.walk(node.value):
                        # A dict stands alone, with plain values or functions from above in it.
                        if isinstance(part, ast.Dict):
                            self.assertIs(part, node.value, where)
                        elif isinstance(part, ast.Name):
                            self.assertIsInstance(node.value, ast.Dict, where)
                            self.assertIn(part.id, [one.name for one in tree.body[:at] if isinstance(one, ast.FunctionDef)])
                        else:
                            self.assertIsInstance(part, inner, where)
                    bound.append(node.targets[0].id)
                elif isinstance(node, ast.ImportFrom):
                    bound.extend([part.name for part in node.names])
                else:
                    self.assertIsInstance(node, (ast.FunctionDef, ast.ClassDef), where)
                    bound.append(node.name)
            self.assertEqual(len(bound), len(set(bound)), name)

    def test_imports(self):
        uses = {}
        for name, tree in TREES.items():
            uses[name] = []
            for node in ast.walk(tree):
                self.assertNotIsInstance(node, ast.Import)
                if isinstance(node, ast.ImportFrom):
                    self.assertIn(node, tree.body)
                    self.assertEqual((node.level, node.module.split(".")[0]), (0, "curveboxes"))
                    source = node.module.split(".")[1] + ".py"
                    uses[name].append(source)
                    defined = [getattr(part, "name", None) for part in TREES[source].body]
                    defined += [part.targets[0].id for part in TREES[source].body if isinstance(part, ast.Assign)]
                    for part in node.names:
                        self.assertIsNone(part.asname)
                        self.assertIn(part.name, defined, f"{name}:{node.lineno}")
        while uses:
            free = [name for name, sources in uses.items() if not set(sources) & set(uses)]
            self.assertTrue(free, f"these import one another: {sorted(uses)}")
            uses = {name: sources for name, sources in uses.items() if name not in free}

    def test_imported_names_are_used(self):
        for name, tree in TREES.items():
            used = {node.id for node in ast.walk(tree) if isinstance(node, ast.Name)}
            for node in tree.body:
                if isinstance(node, ast.ImportFrom):
                    for part in node.names:
                        self.assertIn(part.name, used, name)


class Code(unittest.TestCase):
    def test_statements_and_expressions(self):
        for where, node in nodes(ast.stmt):
            self.assertIsInstance(node, STATEMENTS, where)
        for where, node in nodes(ast.Await, ast.AsyncFor, ast.AsyncWith, ast.AsyncFunctionDef, ast.Div, ast.MatMult):
            self.fail(where)

    def test_exponents_are_small_literals(self):
        for where, node in nodes(ast.BinOp):
            if isinstance(node.op, ast.Pow):
                self.assertIsInstance(node.right, ast.Constant, where)
                self.assertTrue(0 <= node.right.value <= 64, where)

    def test_builtins(self):
        for where, node in nodes(ast.Name):
            if node.id in dir(builtins):
                self.assertIn(node.id, ALLOWED, where)
                self.assertIsInstance(node.ctx, ast.Load, where)
        for where, node in nodes(ast.arg, ast.FunctionDef, ast.ClassDef):
            name = node.arg if isinstance(node, ast.arg) else node.name
            if not isinstance(node, ast.FunctionDef) or not name.startswith("__"):
                self.assertNotIn(name, dir(builtins), where)

    def test_what_is_sorted_and_compared_is_plain(self):
        for where, node in nodes(ast.Call):
            if called(node) == "sorted":
                self.assertTrue(is_plain(node.args[0]), where)
            if called(node) in ("min", "max"):
                self.assertTrue(any(is_plain(part) for part in node.args), where)
            if called(node) in ("sum", "any", "all", "min", "max", "sorted"):
                self.assertFalse([part for part in node.args if isinstance(part, ast.GeneratorExp)], where)

    def test_identity(self):
        for where, node in nodes(ast.Compare):
            for sign, other in zip(node.ops, node.comparators):
                if isinstance(sign, (ast.Is, ast.IsNot)):
                    self.assertTrue(isinstance(other, ast.Constant) and other.value in (None, True, False), where)

    def test_methods_of_values(self):
        own = {node.name for _, node in nodes(ast.FunctionDef)}
        for where, node in nodes(ast.Call):
            if isinstance(node.func, ast.Attribute):
                self.assertIn(node.func.attr, METHODS | own, where)

    def test_errors_are_raised_on_the_spot(self):
        fine = set()
        for where, node in nodes(ast.ExceptHandler):
            self.assertIsInstance(node.type, ast.Name, where)
            self.assertIn(node.type.id, ERRORS, where)
            fine.update(part for part in ast.walk(node) if isinstance(part, ast.Raise) and part.exc is None)
        for where, node in nodes(ast.Raise):
            if node not in fine:
                self.assertIn(called(node.exc), [*ERRORS, "TypeError"], where)
                if node.cause is not None and getattr(node.cause, "value", "") is not None:
                    self.assertIn(called(node.cause), ERRORS, where)

    def test_stars_in_calls_stand_before_names(self):
        for where, node in nodes(ast.Call):
            self.assertFalse([part for part in node.keywords if part.arg is None], where)
            for part in node.args:
                if isinstance(part, ast.Starred):
                    self.assertIsInstance(part.value, ast.Name, where)
        for where, node in nodes(ast.List, ast.Tuple):
            for part in node.elts:
                if isinstance(part, ast.Starred):
                    self.assertIsInstance(part.value, (ast.Name, ast.Attribute), where)

    def test_generators_are_iterated_at_once(self):
        names = {node.name for _, node in nodes(ast.FunctionDef) if is_generator(node)}
        self.assertIn("layers", names)
        for name, tree in TREES.items():
            fine = set()
            for node in ast.walk(tree):
                if isinstance(node, (ast.For, ast.comprehension)):
                    fine.add(node.iter)
                if called(node) in ("list", "tuple", "sorted"):
                    fine.update(node.args)
            for node in ast.walk(tree):
                if isinstance(node, ast.Call) and getattr(node.func, "attr", getattr(node.func, "id", "")) in names:
                    self.assertIn(node, fine, f"{name}:{node.lineno}")
                if isinstance(node, ast.Name):
                    self.assertNotIn(node.id, names, f"{name}:{node.lineno}")

    def test_orders_are_asked_of_plain_numbers(self):
        for where, node in nodes(ast.Call):
            self.assertNotEqual(getattr(node.func, "attr", ""), "sort", where)
            if called(node) in ("sorted", "min", "max"):
                self.assertEqual(node.keywords, [], where)

    def test_no_set_is_kept_or_iterated(self):
        for name, tree in TREES.items():
            fine = set()
            for node in ast.walk(tree):
                if called(node) in ("len", "sorted"):
                    fine.update(node.args)
            for node in ast.walk(tree):
                if isinstance(node, (ast.Set, ast.SetComp)) or called(node) in ("set", "frozenset"):
                    self.assertIn(node, fine, f"{name}:{node.lineno}")


class Definitions(unittest.TestCase):
    def test_classes(self):
        for where, node in nodes(ast.ClassDef):
            self.assertEqual((node.decorator_list, node.keywords), ([], []), where)
            names = [part.name for part in node.body if isinstance(part, ast.FunctionDef)]
            setters = [part.name for part in node.body if isinstance(part, ast.FunctionDef) and is_setter(part)]
            self.assertEqual(len(names), len(set(names)) + len(setters), where)
            for name in names:
                if name.startswith("__"):
                    self.assertIn(name[2:-2], DOUBLE, where)
            if "__getitem__" in names:
                self.assertIn("__iter__", names, where)
            self.assertFalse({"keys", "values", "items"} & set(names), where)

    def test_names_of_methods_and_attributes(self):
        for where, node in nodes(ast.ClassDef):
            methods = {part.name for part in node.body if isinstance(part, ast.FunctionDef)}
            stored = {
                part.attr for part in ast.walk(node)
                if isinstance(part, ast.Attribute) and isinstance(part.ctx, ast.Store)
            }
            self.assertFalse(methods & stored, where)
            self.assertFalse({name for kind in (str, int, list, dict, set, bytes) for name in dir(kind)} & {
                name for name in methods if not name.startswith("__")}, where)

    def test_no_name_is_a_method_and_an_attribute(self):
        methods, stored = set(), set()
        for _, node in nodes(ast.ClassDef):
            methods |= {part.name for part in node.body if isinstance(part, ast.FunctionDef)}
        for _, node in nodes(ast.Attribute):
            if isinstance(node.ctx, ast.Store):
                stored.add(node.attr)
        self.assertEqual(methods & stored, set())

    def test_operators_have_plain_parameters(self):
        for where, node in nodes(ast.FunctionDef):
            if node.name.startswith("__") and node.name not in ("__init__", "__call__"):
                given = [part.arg for part in node.args.args]
                plain = [["self"], ["self", "other"], ["self", "x"], ["self", "at"]]
                if node.name in ("__setitem__", "__exit__"):
                    plain = [["self", "at", "worth"], ["self", "kind", "value", "trace"]]
                self.assertIn(given, plain, where)
                self.assertEqual(node.args.defaults, [], where)

    def test_decorators_and_annotations(self):
        for where, node in nodes(ast.FunctionDef):
            names = [ast.unparse(part) for part in node.decorator_list]
            plain = ([], ["property"], ["staticmethod"], ["classmethod"], [f"{node.name}.setter"])
            self.assertIn(names, plain, where)
            self.assertIsNone(node.returns, where)
            if is_setter(node):
                self.assertEqual([part.arg for part in node.args.args], ["self", "value"], where)

    def test_setters_stand_below_their_properties(self):
        for where, node in nodes(ast.ClassDef):
            for at, part in enumerate(node.body):
                if isinstance(part, ast.FunctionDef) and is_setter(part):
                    above = node.body[at - 1]
                    self.assertEqual((above.name, ast.unparse(above.decorator_list[0])), (part.name, "property"), where)

    def test_exits_only_assign(self):
        exits = [node for _, node in nodes(ast.FunctionDef) if node.name == "__exit__"]
        self.assertEqual(len(exits), 1)
        for row in exits[0].body:
            self.assertRegex(ast.unparse(row), r"^(store = self\.store|store\.[a-z]+ = self\.[a-z]+)$")

    def test_local_names_hide_nothing(self):
        for name, tree in TREES.items():
            top = {part.name for node in tree.body if isinstance(node, ast.ImportFrom) for part in node.names}
            top |= {node.name for node in tree.body if isinstance(node, ast.ClassDef)}
            # A parameter may have the name of a function of its file: the interface has `joints` and `Near(joints)`.
            own = {node.name for node in tree.body if isinstance(node, ast.FunctionDef)}
            for node in ast.walk(tree):
                if isinstance(node, ast.arg):
                    self.assertNotIn(node.arg, top, f"{name}:{node.lineno}")
                if isinstance(node, ast.Name) and isinstance(node.ctx, ast.Store) and node not in tree_targets(tree):
                    self.assertNotIn(node.id, top | own, f"{name}:{node.lineno}")

    def test_properties_are_not_assigned(self):
        names = {node.name for _, node in nodes(ast.FunctionDef) if node.decorator_list}
        for where, node in nodes(ast.Attribute):
            if isinstance(node.ctx, ast.Store):
                self.assertNotIn(node.attr, names, where)
        plain = [node.name for where, node in nodes(ast.FunctionDef) if not node.decorator_list]
        self.assertFalse(names & set(plain))

    def test_generators_have_names_of_their_own(self):
        names = [node.name for _, node in nodes(ast.FunctionDef)]
        for where, node in nodes(ast.FunctionDef):
            if is_generator(node):
                self.assertEqual(names.count(node.name), 1, where)
                self.assertNotIn(node.name, METHODS, where)


if __name__ == "__main__":
    unittest.main()
