"""The form of the code: what of ../shared/LANGUAGE.md can be seen in the code without running it, and the interface.

Each check names its rule. The checks are narrower than the rules: what the package does not need is not allowed here.
"""

import ast
import pathlib
import re
import tokenize
import unittest

PACKAGE = pathlib.Path(__file__).resolve().parent.parent / "evenends"
FILES = sorted(PACKAGE.glob("*.py"))
TREES = {path.stem: ast.parse(path.read_text()) for path in FILES}

INTERFACE = {
    "errors": {name: () for name in (
        "NetError", "MissingError", "InvalidVector", "InvalidBook", "InvalidPart", "InvalidNet", "InvalidCourse",
        "InvalidWeighting", "InvalidDeed", "InvalidItem", "InvalidCosts", "InvalidCount", "NotComparable",
        "InvalidText", "UnknownCommand", "UnknownName", "NoItem", "TooMany", "NothingToUndo")},
    "names": {"is_name": None, "is_integer": None},
    "vectors": {"Vector": ("__init__", "of", "zero", "__getitem__", "__len__", "__bool__", "__contains__", "__add__",
                           "__sub__", "__neg__", "__mul__", "dot", "__eq__", "__str__", "__repr__", "read")},
    "books": {"Book": ("__init__", "of", "empty", "row", "__len__", "__bool__", "__contains__", "__eq__", "__str__",
                       "__repr__", "read")},
    "parts": {"Door": ("__init__", "of", "__eq__"),
              "Tally": ("__init__", "of", "amounts", "__getitem__", "__eq__")},
    "stations": {"Station": ("__init__", "of", "wires", "books", "first", "book", "outcomes", "__eq__"),
                 "Keeper": (), "Frail": ()},
    "nets": {"Net": ("__init__", "of", "__getitem__", "__contains__", "goal", "start", "__eq__", "__str__", "__repr__",
                     "read", "with_book", "without_book", "as_station", "as_keeper", "as_frail", "renamed")},
    "houses": {"House": ("__init__", "books", "tallies", "open_items", "is_at_rest", "meant", "wire", "known",
                         "open_item", "close", "move", "settle", "use", "restart", "most_open", "set_most_open", "do",
                         "trial", "tried", "twin", "__eq__")},
    "stories": {"played": None, "story_text": None, "read_story": None},
    "courses": {"Course": ("__init__", "of", "choices", "pairs", "passed", "begin", "drift", "turned", "with_choice",
                           "story", "__eq__")},
    "pairs": {"pairs": None, "met": None, "endless": None, "shows_pairs": None},
    "weightings": {"Weighting": ("__init__", "of", "names", "vector", "__call__", "__eq__", "__str__", "__repr__",
                                 "read")},
    "sumcheck": {"shows_clean": None, "shows_level": None},
    "sums": {"clean": None, "level": None},
    "lattices": {"Lattice": ("__init__", "of", "zero", "basis", "rank", "names", "__bool__", "__contains__", "reduced",
                             "numbers", "__or__", "within", "__eq__", "across", "__str__")},
    "drifts": {"drifts": None, "errors_of": None, "made_of": None, "clean_sums": None, "level_sums": None},
    "forms": {"form": None, "Form": ("residues", "__eq__"), "form_paper": None},
    "formcheck": {"shows_form": None},
    "alike": {"alike": None},
    "explained": {"explained": None, "history": None},
    "explaincheck": {"shows_explained": None},
    "recountcheck": {"shows_recount": None},
    "plans": {"plan": None},
    "plancheck": {"shows_plan": None},
    "reports": {"report": None, "sums_report": None},
    "desk": {"Desk": ("__init__", "say", "__call__", "house", "undo")},
    "recounts": {"recount": None, "Recount": ("levels", "alone", "right")},
}

# What may be imported that the package does not define; it is only called, by its bare name, by position.
LIBRARY = {"math": ["gcd"]}

STATEMENTS = (ast.Assign, ast.AugAssign, ast.If, ast.While, ast.For, ast.Return, ast.Break, ast.Continue, ast.Pass,
              ast.Raise, ast.With, ast.Try, ast.Expr)
BUILTINS = {"len", "range", "enumerate", "zip", "min", "max", "sum", "abs", "sorted", "int", "str", "bool", "list",
            "tuple", "dict", "set", "isinstance", "repr", "divmod", "any", "all", "ValueError", "TypeError", "IndexError",
            "LookupError", "OverflowError", "property", "staticmethod", "classmethod"}
METHODS = {"append", "extend", "get", "index", "items", "join", "partition", "pop", "split", "startswith", "update",
           "values", "isalpha", "isascii", "isdigit", "islower", "removeprefix", "replace"}
OF_BUILTIN_VALUES = {name for value in ("", 0, [], {}, set(), (), b"") for name in dir(value)}
DUNDERS = {"__init__", "__eq__", "__repr__", "__str__", "__len__", "__enter__", "__exit__", "__iter__", "__add__",
           "__sub__", "__mul__", "__neg__", "__or__", "__bool__", "__contains__", "__getitem__", "__call__"}
CHANGERS = {"append", "extend", "pop", "update"}
BARRED = {"register", "mro", "elements", "open", "input", "law", "version_info", "with_traceback", "add_note",
          "compile", "dir", "eval", "exec", "exit", "hash", "help", "id", "iter", "map", "next", "object", "round",
          "type", "vars", "filter", "format", "print", "super", "format_map"}
WORDS = ("type typing typing_extensions enum Enum IntEnum StrEnum Flag IntFlag Generic Protocol ABC ABCMeta namedtuple "
         "NamedTuple TypedDict TYPE_CHECKING abstractmethod dataclass overload contextmanager Meta").split()


def functions_of(tree):
    return [node for node in ast.walk(tree) if isinstance(node, ast.FunctionDef)]


def classes_of(tree):
    return [node for node in tree.body if isinstance(node, ast.ClassDef)]


def methods_of(node):
    return [part for part in node.body if isinstance(part, ast.FunctionDef)]


def attributes_of(node):
    """The attributes that the methods of a class assign to their own object."""
    return {part.attr for part in ast.walk(node) if isinstance(part, ast.Attribute)
            and isinstance(part.ctx, ast.Store) and isinstance(part.value, ast.Name) and part.value.id == "self"}


def decorators_of(node):
    return [ast.unparse(decorator) for decorator in node.decorator_list]


CLASSES = {node.name: node for tree in TREES.values() for node in classes_of(tree)}
PLAIN_METHODS = {method.name for node in CLASSES.values() for method in methods_of(node) if not method.decorator_list}
PROPERTIES = {method.name for node in CLASSES.values() for method in methods_of(node)
              if any("property" in name or "setter" in name for name in decorators_of(method))}
OF_CLASSES = {method.name for node in CLASSES.values() for method in methods_of(node)
              if set(decorators_of(method)) & {"staticmethod", "classmethod"}}
ATTRIBUTES = {name for node in CLASSES.values() for name in attributes_of(node)}
VALUES = {part.targets[0].id for node in CLASSES.values() for part in node.body if isinstance(part, ast.Assign)}
GENERATORS = {node.name for tree in TREES.values() for node in functions_of(tree)
              if any(isinstance(part, ast.Yield) for part in ast.walk(node))}


class TestFiles(unittest.TestCase):
    def test_folder(self):   # L1, L14
        self.assertEqual([path.name for path in PACKAGE.iterdir()
                          if path.name != "__pycache__" and not re.fullmatch(r"[a-z_]+\.py", path.name)], [])
        self.assertIn("__init__", TREES)

    def test_sizes_and_signs(self):   # L10, L14
        for path in FILES:
            text = path.read_text()
            self.assertTrue(re.fullmatch(r"[ -~\n]*", text), path.name)
            self.assertTrue(text.endswith("\n") and not text.endswith("\n\n"), path.name)
            lines = text.split("\n")
            self.assertLess(len(lines), 400, path.name)
            for line in lines:
                self.assertLessEqual(len(line), 120, (path.name, line))
                self.assertEqual(line, line.rstrip(), path.name)
        for tree in TREES.values():
            for node in functions_of(tree):
                self.assertLessEqual(node.end_lineno - node.lineno + 1, 40, node.name)

    def test_words(self):   # L12, L17
        for path in FILES:
            self.assertFalse(set(WORDS) & set(re.findall(r"\w+", path.read_text())), path.name)
            self.assertNotRegex(path.read_text(), r"_wall|_WallAttr|dataclass|overload|contextmanager")

    def test_strings(self):   # L27
        for path in FILES:
            with path.open("rb") as file:
                strings = [token.string for token in tokenize.tokenize(file.readline) if token.type == tokenize.STRING]
            for text in strings:
                self.assertNotIn("%", text)
                self.assertNotRegex(text, r"\\[^n]|\._+.$|__", path.name)

    def test_docstrings(self):
        for name, tree in TREES.items():
            self.assertTrue(ast.get_docstring(tree), name)
            for node in tree.body:
                if isinstance(node, (ast.FunctionDef, ast.ClassDef)):
                    self.assertTrue(ast.get_docstring(node), node.name)


class TestModules(unittest.TestCase):
    def test_imports(self):   # L2, L16
        needs = {}
        for name, tree in TREES.items():
            needs[name] = []
            for node in ast.walk(tree):
                self.assertNotIsInstance(node, ast.Import)
                if isinstance(node, ast.ImportFrom) and node.module in LIBRARY:
                    self.assertEqual(([alias.name for alias in node.names], node.level), (LIBRARY[node.module], 0))
                elif isinstance(node, ast.ImportFrom):
                    package, module = node.module.split(".")
                    self.assertEqual((package, node.level), ("evenends", 0))
                    defined = [part.name for part in TREES[module].body if hasattr(part, "name")]
                    defined += [part.targets[0].id for part in TREES[module].body if isinstance(part, ast.Assign)]
                    for alias in node.names:
                        self.assertIsNone(alias.asname)
                        self.assertIn(alias.name, defined)
                    needs[name].append(module)
        while needs:
            free = [name for name in needs if not set(needs[name]) & set(needs)]
            self.assertTrue(free, f"files import from each other: {sorted(needs)}")
            needs = {name: modules for name, modules in needs.items() if name not in free}

    def test_library(self):   # L2
        borrowed = [name for names in LIBRARY.values() for name in names]
        for name, tree in TREES.items():
            parents = {child: node for node in ast.walk(tree) for child in ast.iter_child_nodes(node)}
            for node in ast.walk(tree):
                if isinstance(node, ast.Name) and node.id in borrowed:
                    call = parents[node]
                    self.assertTrue(isinstance(call, ast.Call) and call.func is node and not call.keywords, name)
                    self.assertFalse([part for part in call.args if isinstance(part, ast.Starred)], name)

    def test_imports_are_used(self):
        for name, tree in TREES.items():
            used = {node.id for node in ast.walk(tree) if isinstance(node, ast.Name)}
            for node in tree.body:
                if isinstance(node, ast.ImportFrom):
                    for alias in node.names:
                        self.assertIn(alias.name, used, name)

    def test_module_level(self):   # L3, L15
        for name, tree in TREES.items():
            bound = []
            self.assertIsInstance(tree.body[0], ast.Expr)
            for node in tree.body[1:]:
                self.assertIsInstance(node, (ast.ImportFrom, ast.FunctionDef, ast.ClassDef, ast.Assign), name)
                if isinstance(node, ast.Assign):
                    ast.literal_eval(node.value)
                    bound.append(node.targets[0].id)
                elif isinstance(node, ast.ImportFrom):
                    bound += [alias.name for alias in node.names]
                else:
                    bound.append(node.name)
            self.assertEqual(len(bound), len(set(bound)), name)
            for node in functions_of(tree):
                local = {part.arg for part in ast.walk(node) if isinstance(part, ast.arg)}
                local |= {part.id for part in ast.walk(node) if isinstance(part, ast.Name)
                          and isinstance(part.ctx, ast.Store)}
                self.assertFalse(local & set(bound), (name, node.name))
                self.assertFalse(local & (BARRED | BUILTINS), (name, node.name))

    def test_statements_and_signs(self):   # L4, L6, L7, L8, L19, L20, L21
        for name, tree in TREES.items():
            for function in functions_of(tree):
                for node in ast.walk(function):
                    place = (name, getattr(node, "lineno", None))
                    if isinstance(node, ast.stmt) and node is not function:
                        self.assertIsInstance(node, STATEMENTS, place)
                    self.assertNotIsInstance(node, (ast.GeneratorExp, ast.NamedExpr, ast.Await, ast.YieldFrom), place)
                    self.assertNotIsInstance(node, (ast.Div, ast.Pow, ast.MatMult), place)
                    if isinstance(node, ast.Constant):
                        self.assertNotIsInstance(node.value, (float, complex, bytes), place)
                    if isinstance(node, ast.Compare) and isinstance(node.ops[0], (ast.Is, ast.IsNot)):
                        self.assertIsNone(node.comparators[0].value, place)
                    if isinstance(node, ast.Raise):
                        self.assertIsInstance(node.exc, ast.Call, place)
                        self.assertTrue(node.exc.func.id in CLASSES or node.exc.func.id == "TypeError", place)
                self.assertFalse(function.returns, name)
                for default in function.args.defaults + function.args.kw_defaults:
                    self.assertIsInstance(default, ast.Constant, (name, function.name))
                for arg in function.args.args:
                    self.assertIsNone(arg.annotation, name)

    def test_errors_that_are_caught(self):   # L19
        for name, tree in TREES.items():
            for node in ast.walk(tree):
                if isinstance(node, ast.Try):
                    self.assertEqual((node.finalbody, node.orelse, len(node.handlers)), ([], [], 1), name)
                    self.assertIn(node.handlers[0].type.id, INTERFACE["errors"])
                    # The handler only reads an attribute of the error, and raises another one.
                    only, = node.handlers[0].body
                    self.assertIsInstance(only, ast.Raise)
                    self.assertIsNone(only.cause.value)
                    self.assertIsInstance(only.exc.args[0], ast.Attribute)

    def test_names(self):   # L8, L12, L17
        for name, tree in TREES.items():
            bound = {alias.name for node in tree.body if isinstance(node, ast.ImportFrom) for alias in node.names}
            bound |= {node.name for node in tree.body if hasattr(node, "name")}
            bound |= {node.targets[0].id for node in tree.body if isinstance(node, ast.Assign)}
            stored = {node.id for node in ast.walk(tree) if isinstance(node, ast.Name)
                      and isinstance(node.ctx, ast.Store)} | {node.arg for node in ast.walk(tree)
                                                              if isinstance(node, ast.arg)}
            stored |= {node.name for node in ast.walk(tree) if isinstance(node, ast.ExceptHandler)}
            for node in ast.walk(tree):
                if isinstance(node, ast.Name) and isinstance(node.ctx, ast.Load):
                    self.assertNotEqual(node.id, "_", name)
                    decorated = node.id in PROPERTIES
                    self.assertTrue(node.id in bound | stored | BUILTINS or decorated, (name, node.id))
                if isinstance(node, (ast.FunctionDef, ast.ClassDef)):
                    self.assertFalse({node.name} & (BARRED | BUILTINS), name)
                    self.assertTrue(node.name in DUNDERS or not node.name.startswith("__"), name)

    def test_sets(self):   # L24
        for name, tree in TREES.items():
            parents = {child: node for node in ast.walk(tree) for child in ast.iter_child_nodes(node)}
            for node in ast.walk(tree):
                is_set = isinstance(node, (ast.Set, ast.SetComp)) or (
                    isinstance(node, ast.Call) and isinstance(node.func, ast.Name) and node.func.id == "set")
                if is_set:
                    parent = parents[node]
                    self.assertTrue(isinstance(parent, ast.Call) and parent.func.id in ("sorted", "len")
                                    and not parent.keywords, (name, node.lineno))

    def test_views_are_iterated_at_once(self):   # L23
        for name, tree in TREES.items():
            parents = {child: node for node in ast.walk(tree) for child in ast.iter_child_nodes(node)}
            for node in ast.walk(tree):
                if not isinstance(node, ast.Call):
                    continue
                called = node.func.id if isinstance(node.func, ast.Name) else getattr(node.func, "attr", "")
                if called in {"zip", "enumerate", "range", "items", "values"} | GENERATORS:
                    parent = parents[node]
                    at_once = isinstance(parent, (ast.For, ast.comprehension)) or (
                        isinstance(parent, ast.Call) and parent.func.id in ("list", "tuple", "dict", "sorted"))
                    self.assertTrue(at_once, (name, node.lineno))

    def test_calls(self):   # L22, L25, L26
        own = PLAIN_METHODS | OF_CLASSES
        for name, tree in TREES.items():
            for node in ast.walk(tree):
                if isinstance(node, ast.Call) and isinstance(node.func, ast.Attribute):
                    self.assertIn(node.func.attr, own | METHODS, (name, node.lineno))
                    if node.func.attr in METHODS:
                        self.assertFalse(node.keywords, (name, node.lineno))
                elif isinstance(node, ast.Attribute):
                    told = own | METHODS | PROPERTIES | ATTRIBUTES | VALUES | {"setter"}
                    self.assertIn(node.attr, told, (name, node.lineno))


    def test_stars(self):   # L7, L23
        for name, tree in TREES.items():
            for node in ast.walk(tree):
                if isinstance(node, ast.Set):
                    for part in node.elts:
                        self.assertNotIsInstance(part, (ast.Starred, ast.Constant), (name, node.lineno))
                if isinstance(node, ast.Starred) and isinstance(node.value, ast.Call):
                    called = node.value.func
                    called = called.id if isinstance(called, ast.Name) else called.attr
                    self.assertNotIn(called, {"zip", "enumerate", "range", "items", "values"} | GENERATORS, name)
                if isinstance(node, ast.Call):
                    stars = [part.value for part in node.args if isinstance(part, ast.Starred)]
                    stars += [part.value for part in node.keywords if part.arg is None]
                    for part in stars:
                        self.assertIsInstance(part, (ast.Name, ast.Attribute), (name, node.lineno))
                        self.assertNotIn(getattr(part, "attr", None), PROPERTIES, (name, node.lineno))
                    if any(part.arg is None for part in node.keywords):
                        self.assertEqual(len(node.keywords), 1, (name, node.lineno))

    def test_calls_of_generators(self):   # L23
        for name, tree in TREES.items():
            for node in ast.walk(tree):
                if isinstance(node, ast.Call) and isinstance(node.func, ast.Attribute) and node.func.attr in GENERATORS:
                    for part in node.args:
                        self.assertIsInstance(part, (ast.Name, ast.Constant), (name, node.lineno))

    def test_loops_do_not_change_what_they_go_over(self):   # L23
        for name, tree in TREES.items():
            for node in ast.walk(tree):
                if isinstance(node, ast.For):
                    told = {ast.unparse(part) for part in ast.walk(node.iter)
                            if isinstance(part, (ast.Name, ast.Attribute, ast.Subscript))}
                    if isinstance(node.iter, ast.Call) and getattr(node.iter.func, "id", "") in ("list", "sorted"):
                        continue
                    for part in [part for row in node.body for part in ast.walk(row)]:
                        for changed in changed_by(part):
                            self.assertNotIn(ast.unparse(changed), told, (name, part.lineno))


def changed_by(node):
    """What a statement or a call changes: the expressions of the lists and dicts, and of the objects."""
    if isinstance(node, (ast.Assign, ast.AugAssign)):
        targets = node.targets if isinstance(node, ast.Assign) else [node.target]
        parts = [part for target in targets for part in ast.walk(target)]
        return [part.value for part in parts if isinstance(part, (ast.Subscript, ast.Attribute))
                and isinstance(part.ctx, ast.Store)]
    if isinstance(node, ast.Call) and isinstance(node.func, ast.Attribute) and node.func.attr in CHANGERS:
        return [node.func.value]
    return []


def is_new(value):
    """Whether an expression surely gives a new list, dict or object."""
    if isinstance(value, ast.Call) and isinstance(value.func, ast.Name):
        # What cls(..) gives is not by its name an object of a certain class, so its attributes may not be assigned.
        return value.func.id in {"list", "dict", "set", "sorted"} or value.func.id in CLASSES
    return isinstance(value, (ast.List, ast.Dict, ast.ListComp, ast.DictComp))


class TestPurity(unittest.TestCase):
    """What operators, properties and texts run changes nothing but what it created itself."""

    def reached(self):
        plain = {node.name: node for tree in TREES.values() for node in tree.body if isinstance(node, ast.FunctionDef)}
        methods = {}
        for node in CLASSES.values():
            for method in methods_of(node):
                if not any("setter" in text for text in decorators_of(method)):
                    methods.setdefault(method.name, []).append(method)
        starts = (DUNDERS - {"__init__", "__enter__", "__exit__", "__iter__", "__call__"}) | PROPERTIES
        left, found = [node for name in starts for node in methods.get(name, [])], []
        while left:
            node = left.pop()
            if node in found:
                continue
            found.append(node)
            for part in ast.walk(node):
                if isinstance(part, ast.Call) and isinstance(part.func, ast.Attribute):
                    left += methods.get(part.func.attr, []) if part.func.attr not in METHODS else []
                elif isinstance(part, ast.Call) and part.func.id in plain:
                    left.append(plain[part.func.id])
                elif isinstance(part, ast.Call) and part.func.id in {"cls", *CLASSES}:
                    made = [name for name in CLASSES if part.func.id == name or (
                        part.func.id == "cls" and node in methods_of(CLASSES[name]))]
                    left += [method for name in made for method in methods_of(CLASSES[name])
                             if method.name == "__init__"]
        return found

    def test_nothing_is_changed(self):   # L5, L28
        found = self.reached()
        self.assertGreater(len(found), 40)
        for function in found:
            values = {}
            for node in ast.walk(function):
                if isinstance(node, ast.Assign):
                    for target in node.targets:
                        for part in ast.walk(target):
                            if isinstance(part, ast.Name) and isinstance(part.ctx, ast.Store):
                                values.setdefault(part.id, []).append(node.value if part is target else None)
                elif isinstance(node, (ast.For, ast.comprehension)):
                    for part in ast.walk(node.target):
                        if isinstance(part, ast.Name):
                            values.setdefault(part.id, []).append(None)
            for node in ast.walk(function):
                self.assertNotIsInstance(node, (ast.Yield, ast.Delete), function.name)
                if isinstance(node, ast.AugAssign):
                    self.assertIsInstance(node.value, ast.Constant, function.name)
                for changed in changed_by(node):
                    if function.name == "__init__" and ast.unparse(changed) == "self":
                        continue
                    self.assertIsInstance(changed, ast.Name, (function.name, node.lineno))
                    told = values.get(changed.id, [None])
                    self.assertTrue(all(value is not None and is_new(value) for value in told),
                                    (function.name, node.lineno, changed.id))


class TestClasses(unittest.TestCase):
    def test_decorators(self):   # L4, L5
        for name, tree in TREES.items():
            for node in ast.walk(tree):
                if isinstance(node, ast.ClassDef):
                    self.assertEqual((node.decorator_list, node.keywords), ([], []))
                if isinstance(node, ast.FunctionDef):
                    self.assertLessEqual(len(node.decorator_list), 1)
                    for text in decorators_of(node):
                        self.assertIn(text, ("property", "staticmethod", "classmethod", f"{node.name}.setter"), name)
        for node in CLASSES.values():
            for method in methods_of(node):
                inner = [part for part in ast.walk(method) if isinstance(part, ast.FunctionDef)]
                self.assertEqual(inner, [method])

    def test_names_of_methods_and_attributes(self):   # L5, L18, L23, L26
        for one, other in ((PLAIN_METHODS, PROPERTIES), (PLAIN_METHODS, OF_CLASSES), (PROPERTIES, OF_CLASSES),
                           (PLAIN_METHODS, ATTRIBUTES), (OF_CLASSES, ATTRIBUTES), (PROPERTIES, ATTRIBUTES),
                           (VALUES, ATTRIBUTES), (VALUES, PLAIN_METHODS | PROPERTIES | OF_CLASSES)):
            self.assertFalse(one & other)
        for names in (PLAIN_METHODS - DUNDERS, PROPERTIES, OF_CLASSES, VALUES, ATTRIBUTES - {"index", "count"}):
            self.assertFalse(names & OF_BUILTIN_VALUES)
            self.assertFalse(names & BARRED)
        for name in GENERATORS:
            told = [node for tree in TREES.values() for node in functions_of(tree) if node.name == name]
            self.assertEqual(len(told), 1)
        for node in CLASSES.values():
            names = [method.name for method in methods_of(node) if not method.name.startswith("__")
                     and not any("setter" in text for text in decorators_of(method))]
            self.assertEqual(len(names), len(set(names)), node.name)

    def test_classes_are_not_values(self):   # L18
        for name, tree in TREES.items():
            parents = {child: node for node in ast.walk(tree) for child in ast.iter_child_nodes(node)}
            for node in ast.walk(tree):
                if isinstance(node, ast.Name) and node.id in CLASSES:
                    parent = parents[node]
                    if isinstance(parent, ast.Tuple):
                        parent = parents[parent]
                    is_test = isinstance(parent, ast.Call) and getattr(parent.func, "id", "") == "isinstance"
                    is_call = isinstance(parent, ast.Call) and parent.func is node
                    self.assertTrue(is_test or is_call or isinstance(parent, (ast.ClassDef, ast.Attribute, ast.ExceptHandler)),
                                    (name, node.lineno))

    def test_double_underscore_methods(self):   # L5, L28
        for node in CLASSES.values():
            methods = {method.name: method for method in methods_of(node)}
            if "__getitem__" in methods:
                only = methods["__iter__"].body
                self.assertEqual((len(only), ast.unparse(only[0])[:16]), (1, "raise TypeError("), node.name)
            for name in ("__str__", "__repr__", "__len__", "__bool__", "__eq__", "__contains__"):
                if name in methods:
                    self.assertEqual([type(part) for part in methods[name].body], [ast.Return], (node.name, name))
            for name, starts in (("__str__", ("str(",)), ("__repr__", ("f'",)), ("__len__", ("len(",)),
                                 ("__bool__", ("bool(",)), ("__eq__", (f"isinstance(other, {node.name}) and ",))):
                if name in methods:
                    self.assertTrue(ast.unparse(methods[name].body[0].value).startswith(starts), (node.name, name))
            if "__exit__" in methods:
                for part in methods["__exit__"].body:
                    self.assertIsInstance(part, ast.Assign)
                    self.assertIsInstance(part.value, ast.Attribute)

    def test_attributes_are_assigned_through_local_names(self):   # L18
        for name, tree in TREES.items():
            for node in ast.walk(tree):
                if isinstance(node, ast.Attribute) and isinstance(node.ctx, ast.Store):
                    self.assertIsInstance(node.value, ast.Name, (name, node.lineno))

    def test_interface(self):   # L5, L16
        for name, things in INTERFACE.items():
            defined = {node.name: node for node in TREES[name].body if hasattr(node, "name")}
            for thing, methods in things.items():
                self.assertIsInstance(defined[thing], ast.FunctionDef if methods is None else ast.ClassDef)
                told = [part.name for part in methods_of(defined[thing])] if methods is not None else []
                for method in methods or ():
                    self.assertIn(method, told, thing)
