"""The rules for the files of the package, as far as the syntax tree shows them."""

import ast
import builtins
import io
import pathlib
import re
import tokenize
import unittest

ROOT = pathlib.Path(__file__).resolve().parent.parent
PACKAGE = ROOT / "allinputs"

BUILTINS = set(
    "len range enumerate zip min max sum abs sorted reversed int str bool list tuple dict set isinstance ord repr any"
    " all divmod hasattr ValueError True False None NotImplemented KeyError".split()
)
LIBRARY = {
    "heapq": {"heappush", "heappop", "heapify"},
    "math": {"gcd", "lcm", "isqrt", "comb", "perm", "factorial"},
    "itertools": {"product", "combinations", "permutations", "chain", "accumulate", "pairwise", "islice"},
}
METHODS = set(
    "append clear copy count endswith extend find get index insert isalnum isalpha isdigit islower isspace isupper"
    " items join keys ljust lower lstrip partition pop remove replace reverse rfind rjust rpartition rsplit rstrip"
    " setdefault split splitlines startswith strip update upper values zfill bit_length capitalize swapcase casefold"
    " removeprefix removesuffix isascii isdecimal isprintable".split()
)
DUNDERS = set(
    "__init__ __eq__ __repr__ __str__ __len__ __add__ __radd__ __sub__ __rsub__ __mul__ __rmul__ __neg__".split()
)
BARRED = set(
    "mro elements open input law version_info with_traceback add_note register attrgetter breakpoint builtins compile"
    " copyright credits delattr dir eval exec exit gc globals help id importlib license locals methodcaller os quit"
    " setattr super type vars sys typing enum dataclass overload contextmanager Generic Protocol ABC namedtuple".split()
)
ALLOWED = (
    ast.Module, ast.Expr, ast.Constant, ast.ImportFrom, ast.alias, ast.FunctionDef, ast.arguments, ast.arg, ast.ClassDef,
    ast.Assign, ast.If, ast.While, ast.For, ast.Return, ast.Break, ast.Continue, ast.Pass, ast.Raise, ast.Try,
    ast.ExceptHandler, ast.Name, ast.Load, ast.Store, ast.Attribute, ast.Subscript, ast.Slice, ast.Call, ast.keyword,
    ast.BinOp, ast.Add, ast.Sub, ast.Mult, ast.FloorDiv, ast.Mod, ast.LShift, ast.RShift, ast.BitAnd, ast.BitOr,
    ast.UnaryOp, ast.USub, ast.Not, ast.BoolOp, ast.And, ast.Or, ast.Compare, ast.Eq, ast.NotEq, ast.Lt, ast.LtE,
    ast.Gt, ast.GtE, ast.Is, ast.IsNot, ast.In, ast.NotIn, ast.IfExp, ast.List, ast.Tuple, ast.Dict, ast.ListComp,
    ast.comprehension, ast.JoinedStr, ast.FormattedValue, ast.DictComp, ast.Delete, ast.Del,
)
CHANGING = {"append", "extend", "insert", "pop", "remove", "reverse", "clear", "update", "setdefault", "add", "discard"}
HEAPS = {"heappush", "heappop", "heapify"}
COMPARING = {"__eq__", "__ne__", "__lt__", "__le__", "__gt__", "__ge__", "__len__", "__str__", "__repr__"}
WALKED = {"range", "zip", "enumerate", "reversed"}
VIEWS = {"items", "keys", "values"}
TAKERS = {"list", "tuple", "dict", "sorted", "sum", "any", "all", "enumerate", "zip"}


def sources():
    return {path.stem: path.read_text() for path in sorted(PACKAGE.glob("*.py"))}


def bound_names(function):
    """The parameters and local variables of a function."""
    names = [arg.arg for arg in function.args.args + function.args.kwonlyargs]
    for node in ast.walk(function):
        if isinstance(node, ast.Name) and isinstance(node.ctx, ast.Store):
            names.append(node.id)
    return names


def assigned_in(function):
    """A dict from the local names of a function to all that is assigned to them; None for a loop's or a tuple's."""
    made = {}
    for node in ast.walk(function):
        if isinstance(node, ast.Assign):
            for target in node.targets:
                for inner in ast.walk(target):
                    if isinstance(inner, ast.Name) and isinstance(inner.ctx, ast.Store):
                        made.setdefault(inner.id, []).append(node.value if inner is target else None)
        elif isinstance(node, ast.For):
            for inner in ast.walk(node.target):
                if isinstance(inner, ast.Name):
                    made.setdefault(inner.id, []).append(None)
    for argument in function.args.args + function.args.kwonlyargs:
        made.setdefault(argument.arg, []).append(None)
    return made


def changed_in(function):
    """The lists and dicts that a function changes: names and attributes."""
    found = []
    for node in ast.walk(function):
        target = None
        if isinstance(node, ast.Call) and isinstance(node.func, ast.Attribute) and node.func.attr in CHANGING:
            target = node.func.value
        elif isinstance(node, ast.Call) and isinstance(node.func, ast.Name) and node.func.id in HEAPS:
            target = node.args[0]
        elif isinstance(node, ast.Subscript) and isinstance(node.ctx, (ast.Store, ast.Del)):
            target = node.value
        if isinstance(target, ast.Call) and target.func.attr == "setdefault":
            target = None
        if target is not None:
            found.append(target)
    return found


def is_new(value, made, is_strict):
    """Whether an expression makes a new list or dict; strictly, also both parts of a sum do."""
    if isinstance(value, (ast.List, ast.ListComp, ast.Dict, ast.DictComp)):
        return True
    if isinstance(value, ast.Call):
        return isinstance(value.func, ast.Name) and value.func.id in ("list", "dict", "sorted")
    if isinstance(value, ast.Subscript):
        return isinstance(value.slice, ast.Slice)
    if isinstance(value, ast.BinOp) and isinstance(value.op, ast.Add):
        both = [is_new(part, made, is_strict) or is_new_name(part, made) for part in (value.left, value.right)]
        return all(both) if is_strict else any(both)
    return False


def is_new_name(part, made):
    """Whether a part of a sum is a name that is only assigned new lists."""
    if not isinstance(part, ast.Name) or not made.get(part.id):
        return False
    return all(isinstance(value, (ast.List, ast.ListComp)) or is_new(value, {}, True) for value in made[part.id])


def wrong_classes(trees):
    """The places of classes, at any depth, whose names do not begin with a letter."""
    return [f"{name}.py:{node.lineno}" for name, tree in trees.items() for node in ast.walk(tree)
            if isinstance(node, ast.ClassDef) and not re.match("[A-Za-z]", node.name)]


def wrong_beside_heaps(trees):
    """Where what equality, order and texts run stores an attribute, in a package that imports from heapq."""
    if not any(isinstance(node, ast.ImportFrom) and node.module == "heapq" for tree in trees.values()
               for node in ast.walk(tree)):
        return []
    return [f"{place}: {ast.unparse(node)}" for place, function in run_by_operators(trees, COMPARING)
            if function.name != "__init__" for node in ast.walk(function)
            if isinstance(node, ast.Attribute) and isinstance(node.ctx, (ast.Store, ast.Del))]


def is_called(node, names):
    """Whether a node is a call of one of some functions, by its bare name."""
    return isinstance(node, ast.Call) and isinstance(node.func, ast.Name) and node.func.id in names


def is_view(node):
    """Whether a node is a call of the items, keys or values of a dict."""
    return isinstance(node, ast.Call) and isinstance(node.func, ast.Attribute) and node.func.attr in VIEWS


def stands_on_the_spot(node, above):
    """Whether a range, zip, enumerate, reversed or view, or a name that keeps a range, is used where it stands."""
    parent = above[node]
    if isinstance(parent, (ast.For, ast.comprehension)):
        return parent.iter is node
    if isinstance(parent, ast.Compare):
        is_keys = is_view(node) and node.func.attr == "keys"
        is_asked = len(parent.ops) == 1 and parent.left is not node and isinstance(parent.ops[0], (ast.In, ast.NotIn))
        return is_asked and (is_keys or is_called(node, {"range"}) or isinstance(node, ast.Name))
    if not isinstance(parent, ast.Call) or not parent.args or parent.args[0] is not node:
        return False
    if isinstance(parent.func, ast.Attribute):
        return parent.func.attr == "join" and isinstance(parent.func.value, ast.Constant)
    if is_called(parent, {"min", "max"}):
        return len(parent.args) == 1
    if is_called(parent, {"len"}):
        return is_called(node, {"range"}) or is_view(node) or isinstance(node, ast.Name)
    if is_called(parent, {"reversed"}):
        return is_called(node, {"range"}) or isinstance(node, ast.Name)
    return is_called(parent, TAKERS | LIBRARY["itertools"])


def is_kept_range(node, above):
    """Whether a range is assigned to a plain local variable, once, that is then used as a range may be."""
    parent = above[node]
    if not is_called(node, {"range"}) or not isinstance(parent, ast.Assign) or len(parent.targets) != 1:
        return False
    function = parent
    while function in above and not isinstance(function, ast.FunctionDef):
        function = above[function]
    if not isinstance(parent.targets[0], ast.Name) or not isinstance(function, ast.FunctionDef):
        return False
    word = parent.targets[0].id
    uses = [inner for inner in ast.walk(function) if isinstance(inner, ast.Name) and inner.id == word]
    return bound_names(function).count(word) == 1 and all(
        use is parent.targets[0] or stands_on_the_spot(use, above) or is_indexed(use, above) for use in uses)


def is_indexed(use, above):
    """Whether a name is that of which one item is read."""
    parent = above[use]
    return (isinstance(parent, ast.Subscript) and parent.value is use and isinstance(parent.ctx, ast.Load)
            and not isinstance(parent.slice, ast.Slice))


def wrong_iterations(trees):
    """The places of ranges, zips, enumerates, reverseds and views that are not walked where they stand.

    Narrower than the rule: of what may be kept in a local variable, the package keeps ranges alone.
    """
    wrong = []
    for name, tree in trees.items():
        above = {inner: node for node in ast.walk(tree) for inner in ast.iter_child_nodes(node)}
        for node in ast.walk(tree):
            if is_called(node, WALKED) or is_view(node):
                if not stands_on_the_spot(node, above) and not is_kept_range(node, above):
                    wrong.append(f"{name}.py:{node.lineno}: {ast.unparse(node)}")
    return wrong


def run_by_operators(trees, only=None):
    """The functions that operators, equalities and texts of objects run, by bare names: pairs of a place and a node.

    Of some double-underscore methods only, if these are told.
    """
    functions = {}
    starts = []
    for name, tree in trees.items():
        for node in ast.walk(tree):
            if isinstance(node, ast.FunctionDef):
                functions.setdefault(node.name, []).append((f"{name}.py:{node.lineno}", node))
                if re.fullmatch("__.*__", node.name) and node.name != "__init__" and (only is None or node.name in only):
                    starts.append(node.name)
            elif isinstance(node, ast.ClassDef):
                for inner in node.body:
                    if isinstance(inner, ast.FunctionDef) and inner.name == "__init__":
                        functions.setdefault(node.name, []).append((f"{name}.py:{inner.lineno}", inner))
    seen, found = set(), []
    while starts:
        word = starts.pop()
        if word in seen:
            continue
        seen.add(word)
        for place, node in functions.get(word, []):
            found.append((place, node))
            for inner in ast.walk(node):
                if isinstance(inner, ast.Call):
                    starts.append(inner.func.id if isinstance(inner.func, ast.Name) else inner.func.attr)
    return found


def wrong_in_operators(trees):
    """The places at which what operators run may change something that it did not make."""
    wrong = []
    for place, function in run_by_operators(trees):
        made = assigned_in(function)
        for target in changed_in(function):
            values = made.get(target.id, [None]) if isinstance(target, ast.Name) else [None]
            if not all(value is not None and is_new(value, made, True) for value in values):
                wrong.append(f"{place}: {ast.unparse(target)}")
        for node in ast.walk(function):
            if isinstance(node, ast.Attribute) and isinstance(node.ctx, ast.Store):
                values = made.get(node.value.id, [None])
                is_made = all(isinstance(value, ast.Call) and value.func.id[0].isupper() for value in values if value)
                is_own = function.name == "__init__" and node.value.id == "self"
                if not is_own and (not is_made or None in values):
                    wrong.append(f"{place}: {ast.unparse(node)}")
            if isinstance(node, (ast.AugAssign, ast.Global, ast.Nonlocal, ast.Delete)):
                wrong.append(f"{place}: {ast.unparse(node)}")
    return wrong


class Rules(unittest.TestCase):
    def setUp(self):
        self.texts = sources()
        self.trees = {name: ast.parse(text) for name, text in self.texts.items()}

    def walk(self, *kinds):
        for name, tree in self.trees.items():
            for node in ast.walk(tree):
                if isinstance(node, kinds):
                    yield f"{name}.py:{getattr(node, 'lineno', 0)}", node

    def test_files(self):
        for path in PACKAGE.iterdir():
            if path.name != "__pycache__":
                self.assertTrue(re.fullmatch(r"(__init__|[a-z][a-z0-9]*)\.py", path.name), path.name)
        self.assertLessEqual(len(self.texts), 100)
        for name, text in self.texts.items():
            lines = text.split("\n")
            self.assertLessEqual(len(lines) - 1, 399, name)
            self.assertTrue(text.endswith("\n") and not text.endswith("\n\n"), name)
            for line in lines:
                self.assertLessEqual(len(line), 120, f"{name}: {line}")
                self.assertTrue(all(" " <= sign <= "~" for sign in line), f"{name}: {line}")
                self.assertEqual(line, line.rstrip(), name)

    def test_only_allowed_syntax(self):
        for place, node in self.walk(ast.AST):
            self.assertIsInstance(node, ALLOWED, place)

    def test_functions_are_short_and_plain(self):
        for place, node in self.walk(ast.FunctionDef):
            self.assertLessEqual(node.end_lineno - node.lineno + 1, 40, place)
            self.assertFalse(node.decorator_list, place)
            self.assertIsNone(node.args.vararg, place)
            self.assertIsNone(node.args.kwarg, place)
            if not re.fullmatch("__.*__", node.name):
                self.assertIsNotNone(ast.get_docstring(node), place)
            for inner in ast.walk(node):
                self.assertTrue(inner is node or not isinstance(inner, (ast.FunctionDef, ast.ClassDef)), place)

    def test_imports(self):
        seen = {}
        for name, tree in self.trees.items():
            self.assertIsNotNone(ast.get_docstring(tree), name)
            own = [node for node in tree.body if isinstance(node, ast.ImportFrom)]
            start = tree.body.index(own[0]) if own else 1
            self.assertEqual(start, 1, name)
            self.assertEqual(tree.body[1:1 + len(own)], own, name)
            seen[name] = []
            for node in own:
                self.assertEqual(node.level, 0, name)
                self.check_import(name, node)
                seen[name].append(node.module.removeprefix("allinputs."))
            self.assertEqual([node.module for node in own], sorted(
                [node.module for node in own], key=lambda word: (word.startswith("allinputs"), word)), name)
        done = []
        while len(done) < len(seen):
            free = [name for name in seen if name not in done and all(
                other in done or other not in seen for other in seen[name])]
            self.assertTrue(free, f"files import from each other: {sorted(set(seen) - set(done))}")
            done.extend(free)

    def check_import(self, name, node):
        words = re.findall(r"\w+", self.texts[name])
        for alias in node.names:
            self.assertIsNone(alias.asname, name)
            self.assertGreater(words.count(alias.name), 1, f"{name}: {alias.name} is not used")
        if node.module in LIBRARY:
            self.assertLessEqual({alias.name for alias in node.names}, LIBRARY[node.module])
            return
        self.assertTrue(node.module.startswith("allinputs."), name)
        bound = set()
        for other in self.trees[node.module.removeprefix("allinputs.")].body:
            if isinstance(other, (ast.FunctionDef, ast.ClassDef)):
                bound.add(other.name)
            elif isinstance(other, ast.Assign):
                bound.add(other.targets[0].id)
        self.assertLessEqual({alias.name for alias in node.names}, bound, name)

    def test_module_level(self):
        for name, tree in self.trees.items():
            names, functions = [], set()
            for node in tree.body[1:]:
                self.assertIsInstance(node, (ast.ImportFrom, ast.FunctionDef, ast.ClassDef, ast.Assign), name)
                if isinstance(node, ast.Assign):
                    self.assertEqual(len(node.targets), 1, name)
                    names.append(node.targets[0].id)
                    for inner in ast.walk(node.value):
                        self.assertNotIsInstance(inner, ast.Call, name)
                        if isinstance(inner, ast.Name) and isinstance(inner.ctx, ast.Load):
                            self.assertIn(inner.id, functions, name)
                        self.assertTrue(inner is node.value or not isinstance(inner, (ast.List, ast.Dict)), name)
                elif isinstance(node, ast.ImportFrom):
                    names.extend(alias.name for alias in node.names)
                else:
                    names.append(node.name)
                    functions.add(node.name)
            self.assertEqual(len(names), len(set(names)), name)

    def test_names(self):
        every = set(dir(builtins))
        for name, tree in self.trees.items():
            top = {node.name for node in tree.body if isinstance(node, ast.ClassDef)}
            for node in tree.body:
                if isinstance(node, ast.ImportFrom):
                    top.update(alias.name for alias in node.names)
            for node in ast.walk(tree):
                if not isinstance(node, (ast.FunctionDef, ast.ClassDef)):
                    continue
                words = [node.name]
                if isinstance(node, ast.FunctionDef):
                    local = bound_names(node)
                    self.assertFalse(set(local) & (top | every), f"{name}: {node.name}")
                    words = words + local
                for word in words:
                    plain = word in DUNDERS or re.fullmatch(r"_?[A-Za-z][A-Za-z0-9_]*|_", word)
                    self.assertTrue(plain, f"{name}: {word}")
                    self.assertNotIn(word, BARRED | every, name)
                    self.assertFalse(re.match("_(wall|pe_|dcw_|enum_|cm_|twin_re_|lay_|law_|stub_|sre|cold)", word), word)

    def test_words_that_are_not_used(self):
        for name, text in self.texts.items():
            for token in tokenize.generate_tokens(io.StringIO(text).readline):
                if token.type == tokenize.NAME:
                    self.assertNotIn(token.string, BARRED | {"_wall"}, f"{name}: {token.line}")
                    line = token.line.replace(".__class__.__name__", "")
                    is_named = token.string in ("__class__", "__name__") and token.string not in line
                    self.assertFalse(token.string.startswith("__") and token.string not in DUNDERS and not is_named, name)

    def test_strings(self):
        for place, node in self.walk(ast.Constant):
            self.assertNotIsInstance(node.value, (float, complex, bytes), place)
            if isinstance(node.value, str):
                self.assertNotIn("%", node.value, place)
                self.assertNotIn("__", node.value, place)
                self.assertFalse(re.search(r"\b(type|typing|enum|dataclass|overload)\b", node.value), place)
        for name, text in self.texts.items():
            for found in re.findall(r"\\(.)", text):
                self.assertIn(found, "nt\\\"'", name)

    def test_calls(self):
        own = {node.name for _, node in self.walk(ast.FunctionDef, ast.ClassDef)}
        classes = {node.name for _, node in self.walk(ast.ClassDef)}
        for place, node in self.walk(ast.Call):
            target = node.func
            if isinstance(target, ast.Attribute):
                self.assertIn(target.attr, own | METHODS, place)
                if target.attr in METHODS:
                    self.assertFalse(node.keywords, place)
                self.assertFalse(isinstance(target.value, ast.Name) and target.value.id in classes, place)
            else:
                self.assertIsInstance(target, ast.Name, place)
                if target.id in dir(builtins):
                    self.assertIn(target.id, BUILTINS, place)
                    self.assertFalse(node.keywords, place)
            for argument in node.args:
                self.assertNotIsInstance(argument, ast.Starred, place)

    def test_builtin_names_that_are_read(self):
        for place, node in self.walk(ast.Name):
            if node.id in dir(builtins):
                self.assertIn(node.id, BUILTINS, place)

    def test_is_beside_none_and_truths(self):
        for place, node in self.walk(ast.Compare):
            for operator, right in zip(node.ops, node.comparators):
                if isinstance(operator, (ast.Is, ast.IsNot)):
                    self.assertIsInstance(right, ast.Constant, place)
                    self.assertIn(right.value, (None, True, False), place)

    def test_attributes_and_methods_have_unlike_names(self):
        methods, attributes = set(), set()
        for _, node in self.walk(ast.ClassDef):
            methods.update(inner.name for inner in node.body if isinstance(inner, ast.FunctionDef))
            for inner in node.body:
                self.assertTrue(isinstance(inner, ast.FunctionDef) or isinstance(inner.value, ast.Constant), node.name)
        for place, node in self.walk(ast.Attribute):
            if isinstance(node.ctx, ast.Store):
                self.assertIsInstance(node.value, ast.Name, place)
                attributes.add(node.attr)
        self.assertFalse(methods & attributes)
        barred = set("items keys values pop update append clear extend insert remove reverse setdefault sort args encode"
                     " decode hex format mro".split())
        self.assertFalse(attributes & barred)
        for place, node in self.walk(ast.Attribute):
            if isinstance(node.ctx, ast.Load):
                self.assertIn(node.attr, methods | attributes | METHODS | {"__class__", "__name__"}, place)

    def test_equality_begins_with_the_class(self):
        for place, node in self.walk(ast.FunctionDef):
            if node.name == "__eq__":
                first = ast.unparse(node.body[0])
                self.assertTrue(re.match(r"if not isinstance\(other, \w+\):\n    return False$", first) or re.match(
                    r"return isinstance\(other, \w+\) and ", first), place)
            if node.name in ("__str__", "__repr__"):
                for inner in ast.walk(node):
                    if isinstance(inner, ast.Return):
                        self.assertIsInstance(inner.value, (ast.JoinedStr, ast.Constant), place)

    def test_raised_and_caught_errors(self):
        errors = {node.name for node in self.trees["errors"].body if isinstance(node, ast.ClassDef)}
        for place, node in self.walk(ast.Raise):
            if node.exc is not None:
                self.assertIsInstance(node.exc, ast.Call, place)
                self.assertIn(node.exc.func.id, errors, place)
        for place, node in self.walk(ast.ExceptHandler):
            caught = node.type.elts if isinstance(node.type, ast.Tuple) else [node.type]
            for one in caught:
                self.assertIn(one.id, errors | {"KeyError"}, place)

    def test_what_is_passed_is_not_changed(self):
        for place, function in self.walk(ast.FunctionDef):
            made = assigned_in(function)
            for target in changed_in(function):
                if isinstance(target, ast.Attribute):
                    # An object may change its own lists and dicts.
                    self.assertEqual(ast.unparse(target.value), "self", place)
                else:
                    self.assertTrue(made.get(target.id), f"{place}: {target.id}")
                    for value in made[target.id]:
                        self.assertTrue(is_new(value, made, False), f"{place}: {target.id}")

    def test_attributes_are_set_by_their_owners(self):
        # What else sets attributes of others: objects that it has just made, and books, which change.
        others = {"lowest_ratio", "poly_of", "made_grid", "copied", "put_held", "state_of"}
        for place, function in self.walk(ast.FunctionDef):
            for node in ast.walk(function):
                if isinstance(node, ast.Attribute) and isinstance(node.ctx, ast.Store):
                    is_own = node.value.id == "self" and function.args.args[0].arg == "self"
                    self.assertTrue(is_own or function.name in others, f"{place}: {node.attr}")

    def test_what_operators_run_changes_nothing(self):
        wrong = wrong_in_operators(self.trees)
        self.assertEqual(wrong, [])

    def test_what_operators_run_is_looked_at(self):
        # A list made by the sign "*", whose items are stored in what an operator or an equality runs, is found.
        for change in ("row = [0] * 3", "row = other", "row = [1] + other", "row = [0] * len(other)", "row = self.rows"):
            for first in ("__add__", "__eq__"):
                text = (f"class Box:\n    def {first}(self, other):\n        return step(other)\n"
                        f"def step(other):\n    return store(other)\n"
                        f"def store(other):\n    {change}\n    row[0] = 1\n    return row\n")
                self.assertEqual(len(wrong_in_operators({"box": ast.parse(text)})), 1, text)
        for change in ("row = [0 for _ in range(3)]", "row = list(other)", "row = [1]", "row = [1] + list(other)",
                       "row = other[1:]", "row = {}", "row = sorted(other)"):
            text = (f"class Box:\n    def __eq__(self, other):\n        return store(other)\n"
                    f"def store(other):\n    {change}\n    row[0] = 1\n    return row\n")
            self.assertEqual(wrong_in_operators({"box": ast.parse(text)}), [], text)
        text = "class Box:\n    def __neg__(self):\n        return self.turn()\n    def turn(self):\n        self.n = 1\n"
        self.assertEqual(len(wrong_in_operators({"box": ast.parse(text)})), 1)

    def test_names_of_classes(self):
        self.assertEqual(wrong_classes(self.trees), [])
        for text in ("class _Box:\n    pass\n", "class Box:\n    class _Row:\n        pass\n",
                     "def made():\n    if True:\n        class _Box:\n            pass\n    return 1\n"):
            self.assertEqual(len(wrong_classes({"box": ast.parse(text)})), 1, text)
        self.assertEqual(wrong_classes({"box": ast.parse("class Box:\n    def _low(self):\n        return 1\n")}), [])

    def test_nothing_is_stored_beside_heaps(self):
        self.assertEqual(wrong_beside_heaps(self.trees), [])

    def test_what_is_stored_beside_heaps_is_looked_at(self):
        heaps = ast.parse("from heapq import heappop, heappush\n")
        for first in ("__eq__", "__lt__", "__str__", "__len__"):
            text = (f"class Box:\n    def {first}(self, other):\n        return step(other)\n"
                    "def step(other):\n    return made(other)\n"
                    "def made(other):\n    box = Box()\n    box.n = other\n    return box\n")
            tree = ast.parse(text)
            self.assertEqual(len(wrong_beside_heaps({"box": tree, "heaps": heaps})), 1, text)
            self.assertEqual(wrong_beside_heaps({"box": tree}), [], text)
        text = ("class Box:\n    def __init__(self, n):\n        self.n = n\n    def __eq__(self, other):\n"
                "        return made(other)\n    def change(self):\n        self.n = 1\n"
                "def made(other):\n    return Box(other)\n")
        self.assertEqual(wrong_beside_heaps({"box": ast.parse(text), "heaps": heaps}), [])

    def test_ranges_are_walked_on_the_spot(self):
        self.assertEqual(wrong_iterations(self.trees), [])

    def test_ranges_that_are_not_walked_on_the_spot_are_seen(self):
        for line in ("for k in range(3) if n else rows:\n        print(k)",
                     "for k in rows if n else range(3):\n        print(k)",
                     "return range(3)", "return [k for k in n or rows.items()]", "return list(range(3) if n else rows)",
                     "rows = range(3)\n    return rows", "k = rows\n    k = range(4)\n    return list(k)",
                     "k = range(3)\n    return list(k if n else rows)",
                     "k = range(3) if n else rows\n    return list(k)", "k = range(3)\n    return k[1:]",
                     "k = range(3)\n    return told(k)", "self.k = range(3)",
                     "k = [range(3)]\n    return k", "k = zip(n, rows)\n    return list(k)", "return zip(n, rows)",
                     "return set(range(3))", "return list(reversed(zip(n, rows)))", "return len(enumerate(rows))",
                     "return reversed(rows)", "return range(3) == n", "return n in rows.values()", "a, *b = range(3)",
                     "return max(range(3), n)", "return list(zip(rows, range(3)))", "return told(rows.items())"):
            text = f"def made(n, rows, self):\n    {line}\n"
            self.assertEqual(len(wrong_iterations({"box": ast.parse(text)})), 1, text)
        for line in ("for k in range(3):\n        print(k)", "return [k for k, _ in enumerate(rows) if k in range(3)]",
                     "return list(range(3)) if n else rows", "for k in list(range(3)) if n else rows:\n        print(k)",
                     "k = range(3)\n    return [a + b for a in k for b in k] + [k[1], len(k)]",
                     "return list(reversed(range(3)))", "return len(rows.items()) + len(range(3))", "return n in rows.keys()",
                     "return max(range(3))", "return list(zip(rows, n))", "return list(enumerate(range(3)))",
                     "return ','.join(rows.values())", "k = range(3)\n    return list(reversed(k))"):
            text = f"def made(n, rows):\n    {line}\n"
            self.assertEqual(wrong_iterations({"box": ast.parse(text)}), [], text)

    def test_underscore_is_never_read(self):
        for place, node in self.walk(ast.Name):
            if node.id == "_":
                self.assertIsInstance(node.ctx, ast.Store, place)

    def test_comparisons_of_order_have_no_class(self):
        for place, node in self.walk(ast.ClassDef):
            bases = [base.id for base in node.bases]
            self.assertIn(bases, ([], ["SheetError"], ["ValueError"]), place)
            self.assertFalse(node.decorator_list, place)


if __name__ == "__main__":
    unittest.main()
