"""The rules of ../shared/LANGUAGE.md that can be seen from a single file or name, held against the package."""

import ast
import builtins
import pathlib
import re
import unittest

PACKAGE = pathlib.Path(__file__).resolve().parent.parent / "sourwright"
FILES = sorted(PACKAGE.glob("*.py"))
BUILTINS = set(
    "len range enumerate zip min max sum abs sorted reversed int str bool list tuple dict set frozenset isinstance "
    "ord repr any all divmod pow getattr hasattr setattr iter next map super property staticmethod classmethod "
    "Exception ValueError TypeError KeyError IndexError LookupError ZeroDivisionError ArithmeticError OverflowError "
    "RuntimeError NotImplementedError AttributeError StopIteration NotImplemented".split()
)
METHODS = set(
    "append clear copy count endswith extend find get index insert isalnum isalpha isdigit islower isspace isupper "
    "items join keys ljust lower lstrip partition pop remove replace reverse rfind rjust rpartition rsplit rstrip "
    "setdefault split splitlines startswith strip update upper values zfill bit_length title capitalize swapcase "
    "casefold center expandtabs removeprefix removesuffix rindex isascii isdecimal isnumeric istitle isidentifier "
    "isprintable translate add discard".split()
)
DOUBLE = set(
    "init eq repr str len enter exit call iter lt le gt ge ne add sub mul floordiv mod pow and or xor lshift rshift "
    "neg pos invert abs bool contains getitem setitem".split()
)
LIBRARY = {
    "heapq": "heappush heappop heapify heapreplace heappushpop",
    "math": "gcd lcm isqrt comb perm factorial",
    "itertools": "product combinations permutations chain accumulate pairwise islice zip_longest",
    "collections": "defaultdict",
    "__future__": "annotations",
}
BARRED_WORDS = (
    "typing typing_extensions enum Enum IntEnum StrEnum Flag IntFlag Generic Protocol ABC ABCMeta namedtuple "
    "NamedTuple TypedDict TYPE_CHECKING abstractmethod"
).split()
BARRED_NAMES = set(
    "register mro elements open input law version_info with_traceback add_note attrgetter breakpoint builtins compile "
    "copyright credits delattr dir eval exec exit gc globals help id importlib license locals methodcaller os quit "
    "type vars sys __name__".split()
)
BARRED_ATTRIBUTES = set(
    "items keys values pop update append clear extend insert remove reverse setdefault sort args encode decode hex "
    "fromhex format".split()
)
BARRED_NODES = (
    ast.Global, ast.AsyncFunctionDef, ast.AsyncFor, ast.AsyncWith, ast.Await, ast.Import, ast.Div, ast.MatMult,
)
AT_ONCE = {"zip", "enumerate", "reversed", "map"}
# What may take these, and ranges and views, as its first argument.
TAKING = set("list tuple dict sorted sum any all enumerate zip min max".split())
VIEWS = {"items", "keys", "values"}
NO_GENERATORS = {"any", "all", "min", "max", "sum", "sorted"}
TREES = {path.name: ast.parse(path.read_text(encoding="utf-8")) for path in FILES}
NODES = [(name, node) for name, tree in TREES.items() for node in ast.walk(tree)]


def where(name, node):
    return f"{name}:{getattr(node, 'lineno', 0)}"


def bound_names(tree):
    """All names that a file binds: variables, parameters, functions, classes, imports, caught errors."""
    for node in ast.walk(tree):
        if isinstance(node, ast.Name) and isinstance(node.ctx, (ast.Store, ast.Del)):
            yield node, node.id
        elif isinstance(node, ast.arg):
            yield node, node.arg
        elif isinstance(node, (ast.FunctionDef, ast.ClassDef, ast.ExceptHandler)) and node.name:
            yield node, node.name
        elif isinstance(node, ast.alias):
            yield node, node.asname or node.name


def is_passing(node):
    """Whether a call gives a range, a zip or the like, or a view."""
    if isinstance(node.func, ast.Attribute):
        return node.func.attr in VIEWS and not node.args
    return isinstance(node.func, ast.Name) and node.func.id in AT_ONCE | {"range"}


def is_passed_at_once(node, above):
    """Whether what such a call gives is iterated where it stands, or kept in a name."""
    outer = above[node]
    if isinstance(outer, (ast.For, ast.comprehension)):
        return outer.iter == node
    if isinstance(outer, ast.Assign):
        return isinstance(outer.targets[0], ast.Name)
    is_range = isinstance(node.func, ast.Name) and node.func.id == "range"
    is_view = isinstance(node.func, ast.Attribute)
    if isinstance(outer, ast.Compare):
        return (is_range or is_view) and all(isinstance(sign, (ast.In, ast.NotIn)) for sign in outer.ops)
    if not isinstance(outer, ast.Call) or node not in outer.args:
        return False
    if isinstance(outer.func, ast.Attribute):
        return outer.func.attr == "join" and isinstance(outer.func.value, ast.Constant)
    if outer.func.id == "reversed":
        return is_range
    if outer.func.id == "len":
        return is_range or is_view
    return outer.func.id in TAKING and outer.args[0] == node


def asks_whether_none(test):
    """Whether a test asks names and attributes whether they are None, and nothing else."""
    if isinstance(test, ast.BoolOp):
        return all(asks_whether_none(one) for one in test.values)
    if isinstance(test, ast.UnaryOp):
        return isinstance(test.op, ast.Not) and asks_whether_none(test.operand)
    if not isinstance(test, ast.Compare) or len(test.ops) != 1 or not isinstance(test.ops[0], (ast.Is, ast.IsNot)):
        return False
    side = test.comparators[0]
    return is_name_or_attribute(test.left) and isinstance(side, ast.Constant) and side.value is None


def is_name_or_attribute(node):
    while isinstance(node, ast.Attribute):
        node = node.value
    return isinstance(node, ast.Name)


def exits_of(tree):
    """Each `__exit__` of a file, and the methods of its class that it calls."""
    for owner in ast.walk(tree):
        if isinstance(owner, ast.ClassDef):
            methods = {one.name: one for one in owner.body if isinstance(one, ast.FunctionDef)}
            if "__exit__" in methods:
                yield methods["__exit__"]
                for node in ast.walk(methods["__exit__"]):
                    if isinstance(node, ast.Call) and getattr(node.func, "attr", "") in methods:
                        yield methods[node.func.attr]


def has_the_form_of_exits(tree):
    """Whether each `if` in an `__exit__` only asks `is None` and `is not None`, and nothing else asks or loops."""
    for method in exits_of(tree):
        for node in ast.walk(method):
            if isinstance(node, (ast.IfExp, ast.While, ast.For, ast.Try, ast.With, ast.Match, ast.Assert)):
                return False
            if isinstance(node, ast.If) and not asks_whether_none(node.test):
                return False
    return True


class FilesTest(unittest.TestCase):
    def test_folder(self):
        for path in PACKAGE.iterdir():
            if path.name != "__pycache__":
                self.assertTrue(path.is_file() and re.fullmatch(r"[a-z0-9_]+\.py", path.name), path)
        self.assertLessEqual(len(FILES), 100)
        self.assertEqual([type(node) for node in TREES["__init__.py"].body], [ast.Expr])

    def test_characters_and_lines(self):
        for path in FILES:
            text = path.read_text(encoding="utf-8")
            self.assertTrue(all(letter == "\n" or " " <= letter <= "~" for letter in text), path)
            lines = text.split("\n")
            self.assertLessEqual(len(lines) - 1, 399, path)
            self.assertLessEqual(max(map(len, lines)), 120, path)
            self.assertEqual([line for line in lines if line != line.rstrip()], [], path)

    def test_words(self):
        for path in FILES:
            text = path.read_text(encoding="utf-8")
            for word in BARRED_WORDS:
                self.assertIsNone(re.search(rf"\b{word}\b", text), (path, word))
            for word in ("dataclass", "overload", "contextmanager", "_wall", "_WallAttr", "(type)", "Meta", "metaclass="):
                self.assertNotIn(word, text, path)

    def test_functions_are_short(self):
        for name, node in NODES:
            if isinstance(node, ast.FunctionDef):
                self.assertLessEqual(node.end_lineno - node.lineno + 1, 40, where(name, node))


class ModulesTest(unittest.TestCase):
    def test_module_level(self):
        for name, tree in TREES.items():
            self.assertIsInstance(ast.get_docstring(tree), str, name)
            for node in tree.body[1:]:
                self.assertIsInstance(node, (ast.ImportFrom, ast.FunctionDef, ast.ClassDef, ast.Assign), where(name, node))
                if isinstance(node, ast.Assign):
                    self.assertTrue(len(node.targets) == 1 and isinstance(node.targets[0], ast.Name), where(name, node))
                    self.check_plain(name, node.value, False)

    def check_plain(self, name, node, inner):
        if isinstance(node, ast.Dict):
            self.assertFalse(inner, where(name, node))
            for one in node.keys + node.values:
                self.check_plain(name, one, True)
        elif isinstance(node, (ast.List, ast.Tuple)):
            self.assertFalse(inner and isinstance(node, ast.List), where(name, node))
            for one in node.elts:
                self.check_plain(name, one, True)
        elif isinstance(node, ast.Name):
            functions = [one.name for one in TREES[name].body if isinstance(one, ast.FunctionDef)]
            self.assertIn(node.id, functions, where(name, node))
        else:
            ast.literal_eval(node)

    def test_imports(self):
        for name, node in NODES:
            if isinstance(node, ast.ImportFrom):
                self.assertEqual(node.level, 0, where(name, node))
                self.assertIn(node, TREES[name].body)
                for alias in node.names:
                    self.check_import(name, node, alias)

    def check_import(self, name, node, alias):
        if node.module in LIBRARY:
            self.assertIn(alias.name, LIBRARY[node.module].split(), where(name, node))
            return
        folder, file = node.module.split(".")
        self.assertEqual(folder, "sourwright", where(name, node))
        own = [one.name for one in TREES[file + ".py"].body if isinstance(one, (ast.FunctionDef, ast.ClassDef))]
        own += [one.targets[0].id for one in TREES[file + ".py"].body if isinstance(one, ast.Assign)]
        self.assertIn(alias.name, own, where(name, node))

    def test_imports_run_in_no_circle(self):
        ahead = {
            name: {one.module.split(".")[1] + ".py" for one in tree.body
                   if isinstance(one, ast.ImportFrom) and one.module.startswith("sourwright.")}
            for name, tree in TREES.items()
        }
        while ahead:
            free = [name for name, needed in ahead.items() if not needed & set(ahead)]
            self.assertTrue(free, ahead)
            for name in free:
                del ahead[name]

    def test_all_imports_are_used(self):
        for name, tree in TREES.items():
            used = {node.id for node in ast.walk(tree) if isinstance(node, ast.Name)}
            for node in tree.body:
                if isinstance(node, ast.ImportFrom):
                    for alias in node.names:
                        self.assertIn(alias.name, used, where(name, node))


class NamesTest(unittest.TestCase):
    def test_builtins(self):
        for name, tree in TREES.items():
            bound = {one for _, one in bound_names(tree)}
            for node in ast.walk(tree):
                if isinstance(node, ast.Name) and node.id not in bound:
                    self.assertIn(node.id, BUILTINS, where(name, node))

    def test_bound_names(self):
        for name, tree in TREES.items():
            for node, bound in bound_names(tree):
                self.assertFalse(bound in dir(builtins) and not isinstance(node, ast.FunctionDef), where(name, node))
                self.assertNotIn(bound, BARRED_NAMES, where(name, node))
                self.assertRegex(bound, r"^(_|_?[A-Za-z][A-Za-z0-9_]*|__[a-z]+__)$", where(name, node))
                self.assertNotRegex(bound, r"^_(cold|tuplegetter|outside|record|written_out|member_names)[0-9_]*$")
                if bound.startswith("__"):
                    self.assertIn(bound[2:-2], DOUBLE, where(name, node))

    def test_no_name_is_read_as_underscore(self):
        for name, node in NODES:
            if isinstance(node, ast.Name) and isinstance(node.ctx, ast.Load):
                self.assertNotEqual(node.id, "_", where(name, node))

    def test_locals_have_no_names_of_classes_or_imports(self):
        for name, tree in TREES.items():
            taken = {one.name for one in tree.body if isinstance(one, ast.ClassDef)}
            taken |= {alias.name for one in tree.body if isinstance(one, ast.ImportFrom) for alias in one.names}
            for node, bound in bound_names(tree):
                if isinstance(node, (ast.Name, ast.arg)):
                    self.assertNotIn(bound, taken, where(name, node))

    def test_methods_and_attributes(self):
        own = {
            one.name for _, node in NODES if isinstance(node, ast.ClassDef) for one in node.body
            if isinstance(one, ast.FunctionDef)
        }
        for name, node in NODES:
            if isinstance(node, ast.Call) and isinstance(node.func, ast.Attribute):
                self.assertIn(node.func.attr, own | METHODS, where(name, node))
            if isinstance(node, ast.Attribute):
                self.assertFalse(node.attr.startswith("__") and node.attr != "__init__", where(name, node))
                if isinstance(node.ctx, ast.Store):
                    self.assertNotIn(node.attr, BARRED_ATTRIBUTES | own | self.properties(), where(name, node))

    def test_no_method_is_called_as_those_of_sets(self):
        # The package adds to sets that it keeps in variables.
        for name, node in NODES:
            if isinstance(node, ast.FunctionDef):
                self.assertNotIn(node.name, ("add", "discard"), where(name, node))
            if isinstance(node, ast.Attribute) and isinstance(node.ctx, ast.Store):
                self.assertNotIn(node.attr, ("add", "discard"), where(name, node))

    def test_attributes_that_are_read_are_assigned(self):
        own = {node.name for _, node in NODES if isinstance(node, ast.FunctionDef)}
        stored = {node.attr for _, node in NODES if isinstance(node, ast.Attribute) and isinstance(node.ctx, ast.Store)}
        for name, node in NODES:
            if isinstance(node, ast.Attribute) and isinstance(node.ctx, ast.Load):
                self.assertIn(node.attr, own | stored | METHODS, where(name, node))

    def test_what_is_called(self):
        # Names, methods, and items of lists; a call that gives a callable object is assigned first.
        for name, node in NODES:
            if isinstance(node, ast.Call):
                self.assertIsInstance(node.func, (ast.Name, ast.Attribute, ast.Subscript), where(name, node))

    def test_generators_have_names_of_their_own(self):
        functions = [node for _, node in NODES if isinstance(node, ast.FunctionDef)]
        names = [node.name for node in functions]
        for node in functions:
            if any(isinstance(one, (ast.Yield, ast.YieldFrom)) for one in ast.walk(node)):
                self.assertEqual(names.count(node.name), 1)
                self.assertNotIn(node.name, METHODS)

    def properties(self):
        return {
            node.name for _, node in NODES
            if isinstance(node, ast.FunctionDef) and "property" in [ast.unparse(one) for one in node.decorator_list]
        }


class NodesTest(unittest.TestCase):
    def test_barred_nodes(self):
        for name, node in NODES:
            self.assertNotIsInstance(node, BARRED_NODES, where(name, node))
            if isinstance(node, ast.FunctionDef):
                for one in node.decorator_list:
                    self.assertRegex(ast.unparse(one), r"^(property|staticmethod|classmethod|\w+\.setter)$")
            if isinstance(node, ast.ClassDef):
                self.assertEqual(node.decorator_list, [], where(name, node))

    def test_strings(self):
        for name, node in NODES:
            if isinstance(node, ast.Constant):
                self.assertNotIsInstance(node.value, (float, complex), where(name, node))
                if isinstance(node.value, str):
                    self.assertNotIn("%", node.value, where(name, node))

    def test_is(self):
        for name, node in NODES:
            if isinstance(node, ast.Compare):
                for sign, side in zip(node.ops, node.comparators):
                    if isinstance(sign, (ast.Is, ast.IsNot)):
                        self.assertIsInstance(side, ast.Constant, where(name, node))

    def test_generators_are_lists(self):
        # The package has classes with __eq__, so these take lists.
        for name, node in NODES:
            if isinstance(node, ast.Call) and isinstance(node.func, ast.Name) and node.func.id in NO_GENERATORS:
                for one in node.args:
                    self.assertNotIsInstance(one, ast.GeneratorExp, where(name, node))

    def test_iterated_at_once(self):
        right = []
        for _, node in NODES:
            if isinstance(node, (ast.For, ast.comprehension)):
                right.append(node.iter)
            elif isinstance(node, ast.Call) and isinstance(node.func, ast.Name) and node.args:
                if node.func.id in ("list", "tuple", "dict", "sorted", "sum", "any", "all", "enumerate", "zip", "min", "max"):
                    right.append(node.args[0])
        for name, node in NODES:
            if isinstance(node, ast.Call) and isinstance(node.func, ast.Name) and node.func.id in AT_ONCE:
                self.assertIn(node, right, where(name, node))
            if isinstance(node, ast.Call) and isinstance(node.func, ast.Attribute):
                self.assertNotEqual(node.func.attr, "sort", where(name, node))

    def test_ranges_and_views_are_not_handed_on(self):
        for name, tree in TREES.items():
            above = {inner: node for node in ast.walk(tree) for inner in ast.iter_child_nodes(node)}
            for node in ast.walk(tree):
                if isinstance(node, ast.Call) and is_passing(node):
                    self.assertTrue(is_passed_at_once(node, above), where(name, node))

    def test_the_test_of_ranges_and_views(self):
        rows = {
            "spots('c', range(3))": False, "Box(range(3))": False, "box.told(d.items())": False, "f(zip(a, b))": False,
            "xs = [range(3)]": False, "f(at=range(3))": False, "f(*range(3))": False, "g(enumerate(xs))": False,
            "f(reversed(xs))": False, "f(d.values())": False, "f(d.keys())": False, "xs.extend(range(3))": False,
            "len(range(3))": True, "list(range(3))": True, "xs = range(3)": True, "4 in range(3)": True,
            "[k for k in d.items()]": True, "f(list(d.values()))": True, "', '.join(d.keys())": True,
            "list(reversed(range(3)))": True, "list(enumerate(zip(a, b)))": True, "len(zip(a, b))": False, "set(d.values())": False,
        }
        for row, is_right in rows.items():
            tree = ast.parse(row)
            above = {inner: node for node in ast.walk(tree) for inner in ast.iter_child_nodes(node)}
            inner = [node for node in ast.walk(tree) if isinstance(node, ast.Call) and is_passing(node)]
            self.assertEqual(all(is_passed_at_once(node, above) for node in inner), is_right, row)

    def test_exits_only_ask_whether_something_is_none(self):
        # The package has classes with __eq__ and __len__.
        exits = [method for tree in TREES.values() for method in exits_of(tree)]
        self.assertTrue([node for method in exits for node in ast.walk(method) if isinstance(node, ast.If)])
        for name, tree in TREES.items():
            self.assertTrue(has_the_form_of_exits(tree), name)

    def test_the_test_of_exits(self):
        rows = {
            "if kind is None: pass": True, "if kind is not None or self.last is None: pass": True,
            "if not (kind is None and self.shop.last is None): pass": True, "self.x = self.y": True,
            "if self.stays: pass": False, "if not self.stays: pass": False, "if kind is None or not self.stays: pass": False,
            "if self.n == 3: pass": False, "if self.n is True: pass": False, "if self.told() is None: pass": False,
            "if self.rows[0] is None: pass": False, "if kind is None is None: pass": False, "if None is kind: pass": False,
            "if kind is None: pass\n        elif self.n: pass": False, "self.x = 1 if kind is None else 2": False,
            "self.shut()": False, "self.other()": True,
        }
        for row, is_right in rows.items():
            text = (
                f"class Box:\n    def __exit__(self, kind, value, trace):\n        {row}\n"
                "    def shut(self):\n        if self.n: pass\n    def other(self):\n        if self.n is None: pass\n"
            )
            self.assertEqual(has_the_form_of_exits(ast.parse(text)), is_right, row)

    def test_errors_are_made_on_the_spot(self):
        for name, node in NODES:
            if isinstance(node, ast.Raise) and node.exc is not None:
                self.assertTrue(isinstance(node.exc, ast.Call) and isinstance(node.exc.func, ast.Name), where(name, node))

    def test_item_classes_are_not_iterated(self):
        for name, node in NODES:
            if isinstance(node, ast.ClassDef) and any(getattr(one, "name", "") == "__getitem__" for one in node.body):
                family = [node] + [one for _, one in NODES if isinstance(one, ast.ClassDef)
                                   and one.name in [ast.unparse(base) for base in node.bases]]
                methods = [getattr(one, "name", "") for owner in family for one in owner.body]
                self.assertIn("__iter__", methods, where(name, node))


if __name__ == "__main__":
    unittest.main()
