"""Rules of LANGUAGE.md that can be read off the files of the package."""

import ast
import builtins
import pathlib
import re
import unittest

PACKAGE = pathlib.Path(__file__).resolve().parent.parent / "shadowlinks"
LIBRARY = {"heapq", "math", "itertools", "collections"}
BUILTINS = set(
    "len range enumerate zip min max sum abs sorted reversed int str bool bytes list tuple dict set frozenset"
    " isinstance ord repr any all divmod pow getattr hasattr setattr Exception ValueError TypeError KeyError"
    " IndexError LookupError ZeroDivisionError ArithmeticError OverflowError RuntimeError NotImplementedError"
    " AttributeError StopIteration NotImplemented iter next map super property staticmethod classmethod".split()
)
DECORATORS = {"property", "staticmethod", "classmethod"}
BARRED_NAMES = {"register", "mro", "elements", "open", "input", "law", "version_info", "with_traceback", "add_note"}
BARRED_WORDS = (
    "typing", "typing_extensions", "enum", "Enum", "IntEnum", "StrEnum", "Flag", "IntFlag", "Generic", "Protocol",
    "ABC", "ABCMeta", "namedtuple", "NamedTuple", "TypedDict", "TYPE_CHECKING", "abstractmethod", "dataclass",
    "overload", "contextmanager", "_wall", "_WallAttr",
)
BARRED_NODES = (
    ast.Global, ast.AsyncFunctionDef, ast.AsyncFor, ast.AsyncWith, ast.Await, ast.Div, ast.MatMult, ast.TryStar,
)
METHODS = set(
    "append clear copy count endswith extend find get index insert isalnum isalpha isdigit islower isspace isupper"
    " items join keys ljust lower lstrip partition pop remove replace reverse rfind rjust rpartition rsplit rstrip"
    " setdefault split splitlines startswith strip update upper values zfill bit_length removeprefix"
    " removesuffix".split()
)
# The in-place operators are not among these: they may change what they stand for.
OPERATORS = {
    f"__{word}__" for word in (
        "eq repr str len iter lt le gt ge ne add sub mul floordiv mod pow and or xor lshift rshift radd rsub rmul"
        " rfloordiv rmod rand ror rxor rlshift rrshift neg pos invert abs bool contains getitem".split()
    )
}
COMPREHENSIONS = (ast.ListComp, ast.SetComp, ast.DictComp, ast.GeneratorExp)
GIVERS = {"zip", "enumerate", "reversed", "range"}
TAKERS = {"list", "tuple", "dict", "sorted", "sum", "any", "all", "enumerate", "zip", "min", "max"}


def sources():
    for path in sorted(PACKAGE.glob("*.py")):
        text = path.read_text()
        yield path.name, text, ast.parse(text)


def bound_names(tree):
    for node in ast.walk(tree):
        if isinstance(node, (ast.FunctionDef, ast.ClassDef)):
            yield node, node.name
        elif isinstance(node, ast.arg):
            yield node, node.arg
        elif isinstance(node, ast.Name) and isinstance(node.ctx, ast.Store):
            yield node, node.id


def parents_in(tree):
    return {child: node for node in ast.walk(tree) for child in ast.iter_child_nodes(node)}


def is_call(node, names):
    return isinstance(node, ast.Call) and isinstance(node.func, ast.Name) and node.func.id in names


def functions_in(tree):
    return [node for node in ast.walk(tree) if isinstance(node, ast.FunctionDef)]


def is_generator(function):
    return any(isinstance(node, (ast.Yield, ast.YieldFrom)) for node in ast.walk(function))


def targets_of(comprehension):
    every = [node for part in comprehension.generators for node in ast.walk(part.target)]
    return {node.id for node in every if isinstance(node, ast.Name)}


def own_variables(node):
    """The names that a function assigns outside of comprehensions."""
    found = {node.arg} if isinstance(node, ast.arg) else set()
    if isinstance(node, ast.Name) and isinstance(node.ctx, ast.Store):
        found.add(node.id)
    for child in ast.iter_child_nodes(node):
        if not isinstance(child, COMPREHENSIONS):
            found |= own_variables(child)
    return found


def defined_in(trees):
    """The functions and methods of each name; a class stands for every `__init__`, as it may take that of a base."""
    found = {"__init__": []}
    for tree in trees:
        for node in ast.walk(tree):
            if isinstance(node, ast.FunctionDef):
                found.setdefault(node.name, []).append(node)
            elif isinstance(node, ast.ClassDef):
                found[node.name] = found["__init__"]
    return found


def attributes_in(trees):
    """The names of all attributes that are assigned somewhere."""
    every = [node for tree in trees for node in ast.walk(tree)]
    return {node.attr for node in every if isinstance(node, ast.Attribute) and isinstance(node.ctx, ast.Store)}


def is_property(function):
    return any(isinstance(mark, ast.Name) and mark.id == "property" for mark in function.decorator_list)


def called_name(call):
    return call.func.id if isinstance(call.func, ast.Name) else getattr(call.func, "attr", None)


def calls_in(function):
    return [node for node in ast.walk(function) if isinstance(node, ast.Call)]


def run_by_operators(trees):
    """The operators and properties, and all that they may call: whatever has the name that is called."""
    found = defined_in(trees)
    reached = []
    left = [node for tree in trees for node in functions_in(tree) if node.name in OPERATORS or is_property(node)]
    while left:
        node = left.pop()
        if node not in reached:
            reached.append(node)
            left.extend(one for call in calls_in(node) for one in found.get(called_name(call), []))
    return reached


def barred_calls(trees):
    """The calls in what operators and properties run of something that was passed or that an object may hold."""
    attributes = attributes_in(trees)
    barred = []
    for function in run_by_operators(trees):
        variables = {name for node, name in bound_names(function) if not isinstance(node, ast.FunctionDef)}
        for call in calls_in(function):
            if isinstance(call.func, ast.Attribute):
                wrong = call.func.attr in attributes
            else:
                wrong = called_name(call) in variables or not isinstance(call.func, ast.Name)
            if wrong:
                barred.append((function.name, ast.unparse(call.func)))
    return sorted(barred)


class LanguageTest(unittest.TestCase):
    def test_the_folder_holds_python_files_only(self):
        names = {path.name for path in PACKAGE.iterdir()} - {"__pycache__"}
        self.assertLessEqual({"__init__.py", "names.py"}, names)
        for name in names:
            self.assertRegex(name, r"^[a-z_][a-z0-9_]*\.py$")

    def test_characters_and_sizes(self):
        for file, text, tree in sources():
            lines = text.split("\n")
            self.assertLessEqual(len(lines), 400, file)
            self.assertLessEqual(max(map(len, lines)), 120, file)
            self.assertEqual(set(text) - set(map(chr, range(32, 127))) - {"\n"}, set(), file)
            for node in ast.walk(tree):
                if isinstance(node, ast.FunctionDef):
                    self.assertLessEqual(node.end_lineno - node.lineno + 1, 40, f"{file} {node.name}")

    def test_imports(self):
        edges = {}
        for file, _, tree in sources():
            edges[file] = []
            for node in ast.walk(tree):
                self.assertNotIsInstance(node, ast.Import, file)
                if isinstance(node, ast.ImportFrom):
                    self.assertIn(node, tree.body, file)
                    self.assertEqual(node.level, 0, file)
                    self.assertTrue(all(alias.asname is None and alias.name != "*" for alias in node.names), file)
                    if node.module not in LIBRARY:
                        self.assertRegex(node.module, r"^shadowlinks\.[a-z0-9]+$")
                        edges[file].append(node.module.removeprefix("shadowlinks.") + ".py")
        done = set()
        while len(done) < len(edges):
            ready = {file for file in edges if file not in done and done.issuperset(edges[file])}
            self.assertTrue(ready, f"imports in a circle: {set(edges) - done}")
            done |= ready

    def test_statements(self):
        for file, _, tree in sources():
            for node in ast.walk(tree):
                self.assertNotIsInstance(node, BARRED_NODES, f"{file} {getattr(node, 'lineno', 0)}")
                if isinstance(node, ast.FunctionDef):
                    for mark in node.decorator_list:
                        self.assertIsInstance(mark, ast.Name, file)
                        self.assertIn(mark.id, DECORATORS, file)
                if isinstance(node, ast.Constant):
                    self.assertNotIsInstance(node.value, (float, complex), file)

    def test_builtins(self):
        for file, _, tree in sources():
            for node in ast.walk(tree):
                if isinstance(node, ast.Name) and hasattr(builtins, node.id):
                    self.assertIn(node.id, BUILTINS, f"{file} {node.lineno}")

    def test_no_builtin_has_another_meaning(self):
        for file, _, tree in sources():
            methods = [
                item for node in tree.body if isinstance(node, ast.ClassDef) for item in node.body
            ]
            for node, name in bound_names(tree):
                if node not in methods:
                    self.assertFalse(hasattr(builtins, name), f"{file} {name}")
                self.assertNotIn(name, BARRED_NAMES, file)

    def test_no_variable_has_the_name_of_an_import_or_a_class(self):
        for file, _, tree in sources():
            taken = {alias.name for node in tree.body if isinstance(node, ast.ImportFrom) for alias in node.names}
            taken |= {node.name for node in tree.body if isinstance(node, ast.ClassDef)}
            top = [node for node in tree.body if isinstance(node, (ast.ClassDef, ast.FunctionDef))]
            for node, name in bound_names(tree):
                if node not in top:
                    self.assertNotIn(name, taken, f"{file} {node.lineno}")

    def test_imports_are_used(self):
        for file, _, tree in sources():
            used = {node.id for node in ast.walk(tree) if isinstance(node, ast.Name)}
            for node in tree.body:
                if isinstance(node, ast.ImportFrom):
                    for alias in node.names:
                        self.assertIn(alias.name, used, file)
                    # A part can be iterated over and has a length.
                    self.assertFalse({alias.name for alias in node.names} & {"product", "combinations", "permutations"})

    def test_methods_of_builtin_values(self):
        own = {node.name for _, _, tree in sources() for node in functions_in(tree)}
        for file, _, tree in sources():
            for node in ast.walk(tree):
                if isinstance(node, ast.Call) and isinstance(node.func, ast.Attribute):
                    self.assertIn(node.func.attr, METHODS | own, f"{file} {node.lineno}")

    def test_no_name_is_a_method_and_an_attribute(self):
        methods, attributes = set(), set()
        for _, _, tree in sources():
            for node in ast.walk(tree):
                if isinstance(node, ast.ClassDef):
                    methods |= {item.name for item in node.body if isinstance(item, ast.FunctionDef)}
                if isinstance(node, ast.Attribute) and isinstance(node.ctx, ast.Store):
                    attributes.add(node.attr)
        self.assertEqual(methods & attributes, set())

    def test_iterated_at_once(self):
        for file, _, tree in sources():
            parents = parents_in(tree)
            for node in ast.walk(tree):
                parent = parents.get(node)
                if is_call(node, GIVERS):
                    at_once = isinstance(parent, (ast.For, ast.comprehension)) or is_call(parent, TAKERS)
                    self.assertTrue(at_once, f"{file} {node.lineno}")
                if isinstance(node, (ast.Set, ast.SetComp)) or is_call(node, {"set"}):
                    self.assertTrue(is_call(parent, {"sorted", "len"}), f"{file} {node.lineno}")
                if isinstance(node, ast.Call):
                    for argument in node.args:
                        if isinstance(argument, ast.Starred):
                            self.assertIsInstance(argument.value, (ast.Name, ast.Attribute), f"{file} {node.lineno}")

    def test_generators(self):
        every = [node for _, _, tree in sources() for node in functions_in(tree)]
        names = {node.name for node in every if is_generator(node)}
        for name in names:
            self.assertEqual([node.name for node in every].count(name), 1, name)
        for file, _, tree in sources():
            parents = parents_in(tree)
            for node in ast.walk(tree):
                if is_call(node, names):
                    places = (ast.For, ast.comprehension, ast.YieldFrom)
                    at_once = isinstance(parents[node], places) or is_call(parents[node], TAKERS)
                    self.assertTrue(at_once, f"{file} {node.lineno}")

    def test_no_signs_that_change(self):
        # Linkers have `+=` and `-=` of their own, so these stand nowhere else.
        for file, _, tree in sources():
            for node in ast.walk(tree):
                self.assertNotIsInstance(node, ast.AugAssign, f"{file} {getattr(node, 'lineno', 0)}")

    def test_operators_and_properties_call_nothing_that_is_passed_or_held(self):
        trees = [tree for _, _, tree in sources()]
        # An attribute of this name makes each `.index(..)` a call of what an object may hold.
        self.assertIn("index", attributes_in(trees))
        reached = {node.name for node in run_by_operators(trees)}
        self.assertLessEqual({"__getitem__", "_index_of", "theory", "merge_names", "_least_sums"}, reached)
        self.assertEqual(barred_calls(trees), [])

    def test_calls_that_operators_and_properties_may_not_run_are_found(self):
        held = "class Wrong:\n    def __init__(self, index):\n        self.index = index\n"
        for body, barred in (
            (
                "class Box:\n    def __getitem__(self, at):\n        return self.rows.index(at)",
                [("__getitem__", "self.rows.index")],
            ),
            ("class Box:\n    def __getitem__(self, at):\n        return self.rows.find(at)", []),
            ("class Box:\n    def __iadd__(self, other):\n        return self.rows.index(other)", []),
            ("class Box:\n    def at(self, name):\n        return self.rows.index(name)", []),
            ("class Box:\n    def __contains__(self, x):\n        return x(1)", [("__contains__", "x")]),
            ("class Box:\n    def __len__(self):\n        return self.rows[0]()", [("__len__", "self.rows[0]")]),
            ("class Box:\n    def __abs__(self):\n        return [k(1) for k in self.rows]", [("__abs__", "k")]),
            (
                "class Box:\n    @property\n    def many(self):\n        return self.place(1)\n"
                "    def place(self, at):\n        return place_in(self.rows, at)\n"
                "def place_in(rows, at):\n    return rows.index(at)", [("place_in", "rows.index")],
            ),
            (
                "class Box:\n    def __neg__(self):\n        return Shelf([1])\n"
                "class Shelf:\n    def __init__(self, rows):\n        self.at = rows.index(1)",
                [("__init__", "rows.index")],
            ),
        ):
            self.assertEqual(barred_calls([ast.parse(f"{held}{body}")]), barred, body)

    def test_variables_of_inner_comprehensions(self):
        for file, _, tree in sources():
            for function in functions_in(tree):
                assigned = own_variables(function)
                for node in ast.walk(function):
                    if isinstance(node, COMPREHENSIONS):
                        for inner in ast.walk(node):
                            if isinstance(inner, COMPREHENSIONS) and inner is not node:
                                both = targets_of(inner) & (assigned | targets_of(node))
                                self.assertEqual(both, set(), f"{file} {inner.lineno}")

    def test_blocks_give_back_by_plain_assignments(self):
        found = [node for _, _, tree in sources() for node in functions_in(tree) if node.name == "__exit__"]
        self.assertEqual(len(found), 2)
        for function in found:
            for node in ast.walk(function):
                self.assertNotIsInstance(node, (ast.Call, ast.BinOp, ast.Return, ast.Raise, ast.For, ast.While))

    def test_words_and_strings(self):
        for file, text, tree in sources():
            for word in BARRED_WORDS:
                self.assertIsNone(re.search(rf"\b{word}\b", text), f"{file} {word}")
            for node in ast.walk(tree):
                if isinstance(node, ast.Constant) and isinstance(node.value, str):
                    self.assertNotIn("%", node.value, file)
                if isinstance(node, ast.Name):
                    self.assertNotEqual(node.id, "type", file)


if __name__ == "__main__":
    unittest.main()
