"""Looks in the package for code that breaks rules of LANGUAGE.md, as far as a short test can see them."""

import ast
import builtins
import os
import re
import unittest

PACKAGE = os.path.join(os.path.dirname(os.path.dirname(os.path.abspath(__file__))), "shapewright")
FILES = sorted(name for name in os.listdir(PACKAGE) if name != "__pycache__")
BUILTINS = set(
    "len range enumerate zip min max sum abs sorted reversed int str bool list tuple dict set frozenset isinstance ord repr "
    "any all divmod Exception ValueError TypeError KeyError IndexError LookupError ZeroDivisionError ArithmeticError "
    "OverflowError RuntimeError NotImplementedError StopIteration NotImplemented".split()
)
METHODS = set(
    "append clear copy count endswith extend find get index insert isalnum isalpha isdigit islower isspace isupper items join "
    "keys ljust lower lstrip partition pop remove replace reverse rfind rjust rpartition rsplit rstrip setdefault split "
    "splitlines startswith strip update upper values zfill bit_length add discard __init__".split()
)
AT_ONCE = set("list tuple dict sorted sum any all enumerate zip min max".split())
VIEWS = ("zip", "enumerate", "reversed", "range")
BARRED_NAMES = set(
    "register mro elements open input law version_info with_traceback add_note attrgetter breakpoint builtins compile copyright "
    "credits delattr dir eval exec exit gc getattr globals hasattr help id importlib license locals methodcaller os quit setattr "
    "super type vars sys".split()
)
BARRED_WORDS = re.compile(
    r"\b(type|typing|typing_extensions|enum|Enum|IntEnum|StrEnum|Flag|IntFlag|Generic|Protocol|ABC|ABCMeta|namedtuple|"
    r"NamedTuple|TypedDict|TYPE_CHECKING|abstractmethod)\b|dataclass|overload|contextmanager"
)


def source(name):
    with open(os.path.join(PACKAGE, name), encoding="utf-8") as file:
        return file.read()


TREES = {name: ast.parse(source(name)) for name in FILES if name.endswith(".py")}


def top_names(tree):
    """The names that a file binds at module level, imports left out."""
    found = []
    for node in tree.body:
        if isinstance(node, (ast.FunctionDef, ast.ClassDef)):
            found.append(node.name)
        elif isinstance(node, ast.Assign):
            found.extend(target.id for target in node.targets)
    return found


def imported_names(tree):
    return [alias.name for node in tree.body if isinstance(node, ast.ImportFrom) for alias in node.names]


def functions(tree):
    return [node for node in ast.walk(tree) if isinstance(node, (ast.FunctionDef, ast.Lambda))]


def bound_names(function):
    """The parameters and local variables of a function."""
    names = [arg.arg for arg in function.args.args + function.args.kwonlyargs]
    for node in ast.walk(function):
        if isinstance(node, ast.Name) and isinstance(node.ctx, ast.Store):
            names.append(node.id)
    return names


def with_parents(tree):
    for node in ast.walk(tree):
        for child in ast.iter_child_nodes(node):
            yield child, node


class Files(unittest.TestCase):
    def test_names_and_sizes(self):
        for name in FILES:
            self.assertRegex(name, r"\A[a-z_0-9]+\.py\Z")
            text = source(name)
            self.assertLessEqual(len(text.split("\n")), 399, name)
            self.assertTrue(all(c == "\n" or " " <= c <= "~" for c in text), name)
            self.assertLessEqual(max(len(line) for line in text.split("\n")), 120, name)
            for line in text.split("\n"):
                self.assertEqual(line, line.rstrip(), name)

    def test_imports(self):
        edges = {}
        for name, tree in TREES.items():
            others = [node for node in tree.body if not isinstance(node, ast.ImportFrom)]
            self.assertFalse([n for n in ast.walk(tree) if isinstance(n, ast.Import)], name)
            last = max([tree.body.index(n) for n in tree.body if isinstance(n, ast.ImportFrom)], default=0)
            self.assertTrue(all(tree.body.index(n) > last for n in others[1:]), name)
            edges[name] = []
            for node in tree.body:
                if isinstance(node, ast.ImportFrom):
                    self.assertTrue(node.module.startswith("shapewright.") and node.level == 0, name)
                    target = node.module.split(".")[1] + ".py"
                    edges[name].append(target)
                    for alias in node.names:
                        self.assertIsNone(alias.asname)
                        self.assertIn(alias.name, top_names(TREES[target]), (name, alias.name))
            self.assertEqual(len(set(imported_names(tree))), len(imported_names(tree)), name)
            used = {n.id for n in ast.walk(tree) if isinstance(n, ast.Name)}
            self.assertFalse(set(imported_names(tree)) - used, name)
        while edges:
            free = [name for name, targets in edges.items() if not any(target in edges for target in targets)]
            self.assertTrue(free, f"files import from each other: {edges}")
            for name in free:
                del edges[name]

    def test_module_level(self):
        for name, tree in TREES.items():
            names = top_names(tree) + imported_names(tree)
            self.assertEqual(len(set(names)), len(names), name)
            for node in tree.body:
                docstring = isinstance(node, ast.Expr) and isinstance(node.value, ast.Constant)
                plain = isinstance(node, ast.Assign) and len(node.targets) == 1 and isinstance(node.targets[0], ast.Name)
                kinds = (ast.ImportFrom, ast.FunctionDef, ast.ClassDef)
                self.assertTrue(docstring or plain or isinstance(node, kinds), (name, node.lineno))
                if plain:
                    self.assertFalse([n for n in ast.walk(node.value) if isinstance(n, (ast.Call, ast.comprehension))], name)

    def test_words_and_strings(self):
        for name, tree in TREES.items():
            docstrings = {id(node.body[0].value) for node in ast.walk(tree)
                          if isinstance(node, (ast.Module, ast.ClassDef, ast.FunctionDef)) and ast.get_docstring(node) is not None}
            for node in ast.walk(tree):
                if isinstance(node, ast.Constant) and isinstance(node.value, str):
                    self.assertNotIn("%", node.value, (name, node.lineno))
                    self.assertFalse(node.value.endswith(("._", ".__")), (name, node.lineno))
                    self.assertFalse(re.match(r"__.*__\Z", node.value), (name, node.lineno))
                    if id(node) not in docstrings:
                        self.assertFalse(BARRED_WORDS.search(node.value), (name, node.lineno))
                for text in (getattr(node, "id", ""), getattr(node, "attr", ""), getattr(node, "arg", ""), getattr(node, "name", "")):
                    self.assertFalse(BARRED_WORDS.search(text or ""), (name, text))
            self.assertFalse(re.search(r"\\[^nt\\\"']", source(name)), name)


class Code(unittest.TestCase):
    def test_functions_are_short(self):
        for name, tree in TREES.items():
            for node in functions(tree):
                self.assertLessEqual(node.end_lineno - node.lineno + 1, 40, (name, node.lineno))

    def test_no_statement_or_expression_outside_of_the_subset(self):
        barred = (
            ast.Global, ast.AsyncFunctionDef, ast.Await, ast.AsyncFor, ast.AsyncWith, ast.Div, ast.Import, ast.AnnAssign,
        )
        for name, tree in TREES.items():
            for node in ast.walk(tree):
                self.assertNotIsInstance(node, barred, (name, getattr(node, "lineno", 0)))
                if isinstance(node, (ast.FunctionDef, ast.ClassDef)):
                    self.assertEqual(node.decorator_list, [], (name, node.lineno))
                if isinstance(node, ast.Constant):
                    self.assertNotIsInstance(node.value, (float, complex), (name, node.lineno))
                if isinstance(node, ast.ExceptHandler):
                    self.assertIsInstance(node.type, (ast.Name, ast.Tuple), (name, node.lineno))
                if isinstance(node, ast.Raise) and node.exc is not None:
                    self.assertIsInstance(node.exc, ast.Call, (name, node.lineno))
                if isinstance(node, (ast.Is, ast.IsNot)):
                    continue

    def test_is_is_used_with_none_true_and_false(self):
        for name, tree in TREES.items():
            for node in ast.walk(tree):
                if isinstance(node, ast.Compare) and isinstance(node.ops[0], (ast.Is, ast.IsNot)):
                    self.assertIsInstance(node.comparators[0], ast.Constant, (name, node.lineno))

    def test_names(self):
        errors = {n for n in dir(builtins) if isinstance(getattr(builtins, n), type) and issubclass(getattr(builtins, n), BaseException)}
        for name, tree in TREES.items():
            own = set(top_names(tree)) | set(imported_names(tree))
            barred = set(imported_names(tree)) | {n.name for n in tree.body if isinstance(n, ast.ClassDef)}
            for top in top_names(tree):
                self.assertFalse(hasattr(builtins, top) or top in BARRED_NAMES, (name, top))
            for function in functions(tree):
                for bound in bound_names(function):
                    self.assertFalse(hasattr(builtins, bound) or bound in BARRED_NAMES, (name, function.lineno, bound))
                    self.assertFalse(bound in barred or bound in errors, (name, function.lineno, bound))
                    self.assertFalse(bound.startswith("__"), (name, bound))
            stored = {bound for function in functions(tree) for bound in bound_names(function)}
            for node in ast.walk(tree):
                if isinstance(node, ast.Name) and isinstance(node.ctx, ast.Load) and node.id not in own | stored:
                    self.assertIn(node.id, BUILTINS, (name, node.lineno))

    def test_methods_and_attributes(self):
        own = set()
        for tree in TREES.values():
            for node in ast.walk(tree):
                if isinstance(node, ast.ClassDef):
                    own.update(part.name for part in node.body if isinstance(part, ast.FunctionDef))
                if isinstance(node, ast.Attribute) and isinstance(node.ctx, ast.Store):
                    own.add(node.attr)
        for name, tree in TREES.items():
            for node in ast.walk(tree):
                if isinstance(node, ast.Attribute):
                    self.assertIn(node.attr, METHODS | own, (name, node.lineno))
                    self.assertFalse(hasattr(str, node.attr) and node.attr not in METHODS, (name, node.lineno))

    def test_generators_and_views_are_iterated_at_once(self):
        for name, tree in TREES.items():
            for node, parent in with_parents(tree):
                place = (name, getattr(node, "lineno", 0))
                if isinstance(node, ast.GeneratorExp):
                    self.assertIsInstance(parent, ast.Call, place)
                    target = parent.func.id if isinstance(parent.func, ast.Name) else parent.func.attr
                    self.assertIn(target, AT_ONCE | {"join"}, place)
                called = isinstance(node, ast.Call) and isinstance(node.func, ast.Name) and node.func.id in VIEWS
                viewed = isinstance(node, ast.Call) and isinstance(node.func, ast.Attribute) and node.func.attr in ("items", "keys", "values")
                if called or viewed:
                    looped = isinstance(parent, (ast.For, ast.comprehension)) and parent.iter is node
                    passed = isinstance(parent, ast.Call) and isinstance(parent.func, ast.Name) and parent.func.id in AT_ONCE
                    self.assertTrue(looped or passed, place)

    def test_sets_stand_only_in_len_sorted_and_in(self):
        for name, tree in TREES.items():
            for node, parent in with_parents(tree):
                made = isinstance(node, (ast.Set, ast.SetComp))
                made = made or (isinstance(node, ast.Call) and isinstance(node.func, ast.Name) and node.func.id in ("set", "frozenset"))
                if made:
                    measured = isinstance(parent, ast.Call) and isinstance(parent.func, ast.Name) and parent.func.id in ("len", "sorted")
                    self.assertTrue(measured or isinstance(parent, ast.Compare), (name, node.lineno))

    def test_no_name_is_a_method_and_an_attribute(self):
        methods, attributes = set(), set()
        for tree in TREES.values():
            for node in ast.walk(tree):
                if isinstance(node, ast.ClassDef):
                    methods.update(part.name for part in node.body if isinstance(part, ast.FunctionDef))
                if isinstance(node, ast.Attribute) and isinstance(node.ctx, ast.Store):
                    attributes.add(node.attr)
        self.assertEqual(methods & attributes, set())

    def test_stars_in_calls(self):
        for name, tree in TREES.items():
            for node in ast.walk(tree):
                if isinstance(node, ast.Call):
                    stars = [part.value for part in node.args if isinstance(part, ast.Starred)]
                    stars += [keyword.value for keyword in node.keywords if keyword.arg is None]
                    self.assertTrue(all(isinstance(part, (ast.Name, ast.List, ast.Tuple)) for part in stars), (name, node.lineno))

    def test_keywords_of_builtins(self):
        allowed = {"sorted": {"key", "reverse"}, "min": {"key", "default"}, "max": {"key", "default"}, "sum": {"start"},
                   "enumerate": {"start"}, "zip": {"strict"}}
        for name, tree in TREES.items():
            for node in ast.walk(tree):
                if isinstance(node, ast.Call) and isinstance(node.func, ast.Name) and node.func.id in BUILTINS:
                    words = {keyword.arg for keyword in node.keywords}
                    self.assertFalse(words - allowed.get(node.func.id, set()), (name, node.lineno))
