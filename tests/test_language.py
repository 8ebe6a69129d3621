"""The package keeps to what can be checked here of the rules of ../shared/LANGUAGE.md (L1 to L28)."""

import ast
import builtins
import pathlib
import re
import unittest
import warnings

FOLDER = pathlib.Path(__file__).parent.parent / "pieceasks"
FILES = sorted(FOLDER.rglob("*.py"))

ALLOWED_BUILTINS = set(
    "len range enumerate zip min max sum abs sorted reversed int str bool list tuple dict set isinstance ord repr any all "
    "divmod pow iter next map getattr hasattr setattr property staticmethod classmethod super "
    "Exception ValueError TypeError KeyError IndexError LookupError ZeroDivisionError ArithmeticError OverflowError "
    "RuntimeError NotImplementedError AttributeError StopIteration NotImplemented".split())
BUILTIN_METHODS = set(
    "append clear copy count endswith extend find get index insert isalnum isalpha isdigit islower isspace isupper items "
    "join keys ljust lower lstrip partition pop remove replace reverse rfind rjust rpartition rsplit rstrip setdefault split "
    "splitlines startswith strip update upper values zfill bit_length title capitalize swapcase casefold center expandtabs "
    "removeprefix removesuffix rindex isascii isdecimal isnumeric istitle isidentifier isprintable translate encode decode "
    "hex format add discard".split())
SPECIAL_METHODS = set(
    "__init__ __eq__ __repr__ __str__ __len__ __enter__ __exit__ __call__ __iter__ __lt__ __le__ __gt__ __ge__ __ne__ __add__ "
    "__sub__ __and__ __or__ __radd__ __rsub__ __rand__ __ror__ __iadd__ __isub__ __iand__ __ior__ __invert__ __bool__ "
    "__contains__ __getitem__ __setitem__".split())
BARRED_WORDS = (
    "typing", "typing_extensions", "enum", "Enum", "IntEnum", "StrEnum", "Flag", "IntFlag", "Generic", "Protocol", "ABC",
    "ABCMeta", "namedtuple", "NamedTuple", "TypedDict", "TYPE_CHECKING", "abstractmethod", "dataclass", "overload",
    "contextmanager", "_wall", "_WallAttr", "metaclass")
BARRED_NAMES = set(
    "register mro elements open input law version_info with_traceback add_note attrgetter breakpoint builtins compile copyright "
    "credits delattr dir eval exec exit gc globals help id importlib license locals methodcaller os quit type vars sys".split())
BARRED_BEGINS = ("__", "_wall", "_pe_", "_dcw_", "_enum_", "_cm_", "_twin_re_", "_lay_", "_law_", "_stub_", "_sre", "_WallAttr")
BARRED_ENTIRELY = re.compile("(_cold|_tuplegetter|_outside|_record|_written_out|_member_names)[0-9_]*")
FORBIDDEN_NODES = (
    ast.Global, ast.AsyncFunctionDef, ast.Await, ast.AsyncFor, ast.AsyncWith, ast.Import, ast.FloorDiv, ast.Div, ast.Try, ast.AnnAssign)


# The classes and functions of the document (None) by modules, with the methods and properties of the classes.
INTERFACE = {
    "errors": {"AskError": "", "InvalidPiece": "", "InvalidText": "", "InvalidBook": "", "InvalidCode": "", "InvalidPromise": "", "Unlike": "", "Misfit": "",
               "InvalidCommand": "", "NoPlace": "", "OtherShape": "", "UnknownName": ""},
    "pieces": {"Piece": "read is_name params kept body shape names __str__ __len__ __getitem__ __contains__ __iter__ __add__ __radd__ __eq__ __call__"},
    "books": {"Book": "read of begin moments lacking upto packed __str__ __len__ __add__ __eq__ __lt__ __le__ __gt__ __ge__"},
    "runs": {"Run": "ask tell calls back held __len__"}, "codes": {"Code": "params rows kept shape __len__ __call__ __eq__", "compiled": None},
    "comparing": {"compare": None, "is_alike": None, "parts_on": None}, "papers": {"paper_of": None, "paper_holds": None},
    "promises": {"Promises": "read kept_by __str__ __len__ __contains__ __iter__ __eq__ __le__ __lt__ __ge__ __gt__ __or__ __ror__ __and__ __rand__ __sub__ __rsub__ "
                             "__ior__ __iand__ __isub__"},
    "needs": {"least_promises": None, "needed": None}, "parts": {"wanted": None, "part": None, "exchanged": None, "idle": None},
    "rules": {"Rule": "parting places used old new __invert__ __eq__"},
    "drafts": {"Draft": "piece lay take_out undo trial __getitem__ __setitem__ __iadd__ __len__", "Trial": "keep __enter__ __exit__", "within": None},
    "shelves": {"Shelf": "drop compare groups __setitem__ __getitem__ __contains__ __len__ __iter__"}, "desk": {"Desk": "say"},
}


def trees():
    for path in FILES:
        yield path, ast.parse(path.read_text(encoding="ascii"))


def bound_names(tree):
    """All names that a file gives to something, but methods and attributes."""
    methods = {id(part) for node in ast.walk(tree) if isinstance(node, ast.ClassDef) for part in node.body}
    for node in ast.walk(tree):
        if isinstance(node, ast.Name) and not isinstance(node.ctx, ast.Load):
            yield node.id
        elif isinstance(node, ast.arg):
            yield node.arg
        elif isinstance(node, (ast.FunctionDef, ast.ClassDef)) and id(node) not in methods:
            yield node.name
        elif isinstance(node, ast.alias):
            yield node.asname or node.name
        elif isinstance(node, (ast.MatchAs, ast.MatchStar)) and node.name:
            yield node.name


def classes_of(tree):
    return [node for node in tree.body if isinstance(node, ast.ClassDef)]


def is_plain(node):
    """Whether the value of a name at module level is a plain one."""
    if isinstance(node, ast.Constant):
        return True
    if isinstance(node, ast.UnaryOp):
        return isinstance(node.op, ast.USub) and is_plain(node.operand)
    if isinstance(node, (ast.Tuple, ast.List)):
        return all(is_plain(part) for part in node.elts)
    if isinstance(node, ast.Dict):
        return all(is_plain(part) and not isinstance(part, (ast.Dict, ast.List)) for part in node.keys + node.values)
    return False


CHANGING = set("append clear extend insert pop remove reverse setdefault update add discard sort".split())
GOING_OVER = ("enumerate", "zip", "reversed", "range", "map", "chain")


def base(node):
    """The text of what an expression belongs to: a name or a field, without its items."""
    while isinstance(node, ast.Subscript):
        node = node.value
    return ast.unparse(node) if isinstance(node, (ast.Name, ast.Attribute)) else None


def choices(node):
    """The texts of what an expression may be, without being a copy."""
    if isinstance(node, ast.IfExp):
        return choices(node.body) + choices(node.orelse)
    if isinstance(node, ast.BoolOp):
        return [text for value in node.values for text in choices(value)]
    if isinstance(node, ast.NamedExpr):
        return choices(node.target) + choices(node.value)
    text = base(node)
    return [] if text is None else [text]


def walked_over(node):
    """The texts of what a loop over an expression goes over."""
    if isinstance(node, ast.Call) and isinstance(node.func, ast.Name) and node.func.id in GOING_OVER:
        return [text for part in node.args for text in walked_over(part)]
    if isinstance(node, ast.Call) and isinstance(node.func, ast.Attribute) and node.func.attr in ("items", "keys", "values"):
        return walked_over(node.func.value)
    return choices(node)


def changed_in(node):
    """The texts of what is changed within a statement or expression, with the lines."""
    for part in ast.walk(node):
        if isinstance(part, ast.Call) and isinstance(part.func, ast.Attribute) and part.func.attr in CHANGING:
            for text in choices(part.func.value):
                yield text, part.lineno
        targets = part.targets if isinstance(part, (ast.Assign, ast.Delete)) else [part.target] if isinstance(part, ast.AugAssign) else []
        for target in targets:
            for inner in ast.walk(target):
                if isinstance(inner, ast.Subscript) or isinstance(part, ast.AugAssign) and inner is target:
                    for text in choices(inner):
                        yield text, part.lineno


def same_names(function):
    """For each text the texts that may stand for the same thing in a function."""
    groups = {}
    for part in ast.walk(function):
        pairs = []
        if isinstance(part, ast.Assign):
            for target in part.targets:
                if isinstance(target, ast.Tuple) and isinstance(part.value, ast.Tuple):
                    pairs += zip(target.elts, part.value.elts)
                else:
                    pairs.append((target, part.value))
        for target, value in pairs:
            for one in choices(target):
                for other in choices(value):
                    joined = groups.get(one, {one}) | groups.get(other, {other})
                    for text in joined:
                        groups[text] = joined
    return groups


def changed_loops(tree):
    """The lines at which something is changed that a loop or comprehension around goes over."""
    for function in ast.walk(tree):
        if not isinstance(function, ast.FunctionDef):
            continue
        groups = same_names(function)
        for loop in ast.walk(function):
            walks, inner = [], []
            if isinstance(loop, ast.For):
                walks, inner = [loop.iter], loop.body
            elif isinstance(loop, (ast.ListComp, ast.SetComp, ast.DictComp, ast.GeneratorExp)):
                walks, inner = [part.iter for part in loop.generators], [loop]
            over = {other for walk in walks for text in walked_over(walk) for other in groups.get(text, {text})}
            for part in inner:
                for text, line in changed_in(part):
                    if text in over:
                        yield line


class LanguageTest(unittest.TestCase):
    def test_loops_do_not_change_what_they_go_over(self):
        for path, tree in trees():
            self.assertEqual(list(changed_loops(tree)), [], path)
        for text, lines in (("for x in xs:\n  xs.append(x)", [3]), ("for x in list(xs):\n  xs.append(x)", []), ("for x in xs:\n  ys.append(x)", []),
                            ("for x in xs:\n  ys = []\n  ys.extend(x)\n  xs = ys", [4]), ("for k, x in enumerate(self.xs):\n  self.xs[k] = 0", [3]),
                            ("for k in d.items():\n  del d[k]", [3]), ("for x in xs or ys:\n  ys.pop()", [3]), ("return [xs.pop() for x in xs]", [2])):
            self.assertEqual(list(changed_loops(ast.parse(f"def f(self, xs, ys, d):\n {text}"))), lines, text)

    def test_folder(self):
        for path in FOLDER.rglob("*"):
            if path.name == "__pycache__" or path.parent.name == "__pycache__":
                continue
            self.assertTrue(re.fullmatch(r"[a-z][a-z0-9_]*\.py|__init__\.py|__main__\.py", path.name), path)
            self.assertNotIn(path.stem, dir(builtins))
        self.assertLessEqual(len(FILES), 100)

    def test_lines(self):
        for path in FILES:
            text = path.read_text(encoding="utf-8")
            self.assertTrue(all(sign == "\n" or " " <= sign <= "~" for sign in text), path)
            lines = text.split("\n")
            self.assertLessEqual(len(lines), 399, path)
            for line in lines:
                self.assertLessEqual(len(line), 120, (path, line))

    def test_functions_are_short(self):
        for path, tree in trees():
            for node in ast.walk(tree):
                if isinstance(node, ast.FunctionDef):
                    self.assertLessEqual(node.end_lineno - node.lineno + 1, 40, (path, node.name))

    def test_warnings(self):
        with warnings.catch_warnings():
            warnings.simplefilter("error")
            for path in FILES:
                compile(path.read_text(encoding="utf-8"), str(path), "exec")

    def test_module_level(self):
        for path, tree in trees():
            for at, node in enumerate(tree.body):
                if at == 0 and isinstance(node, ast.Expr) and isinstance(node.value, ast.Constant):
                    continue
                if isinstance(node, ast.Assign):
                    self.assertEqual(len(node.targets), 1)
                    self.assertIsInstance(node.targets[0], ast.Name)
                    self.assertTrue(is_plain(node.value), (path, node.lineno))
                else:
                    self.assertIsInstance(node, (ast.ImportFrom, ast.FunctionDef, ast.ClassDef), (path, node.lineno))

    def test_imports(self):
        goals = {}
        for path, tree in trees():
            goals[path.stem] = []
            for node in ast.walk(tree):
                if isinstance(node, ast.ImportFrom):
                    self.assertEqual(node.level, 0)
                    self.assertTrue(node.module.startswith("pieceasks."), (path, node.module))
                    goals[path.stem].append(node.module.removeprefix("pieceasks."))
                    source = ast.parse((FOLDER / f"{goals[path.stem][-1]}.py").read_text())
                    there = {part.name for part in source.body if isinstance(part, (ast.FunctionDef, ast.ClassDef))}
                    there |= {part.targets[0].id for part in source.body if isinstance(part, ast.Assign)}
                    used = {part.id for part in ast.walk(tree) if isinstance(part, ast.Name)}
                    for alias in node.names:
                        self.assertIn(alias.name, there, path)
                        self.assertIn(alias.asname or alias.name, used, path)
        # No two files import from each other.
        while goals:
            free = [name for name in goals if not set(goals[name]) & set(goals)]
            self.assertTrue(free, goals)
            for name in free:
                del goals[name]

    def test_nodes(self):
        for path, tree in trees():
            for node in ast.walk(tree):
                self.assertNotIsInstance(node, FORBIDDEN_NODES, (path, getattr(node, "lineno", 0)))
                if isinstance(node, ast.Constant):
                    self.assertNotIsInstance(node.value, (float, complex))
                    if isinstance(node.value, str):
                        self.assertNotIn("%", node.value, path)
                        self.assertFalse(node.value.startswith("__") and node.value.endswith("__") and node.value, path)
                if isinstance(node, ast.Compare):
                    for op, other in zip(node.ops, node.comparators):
                        if isinstance(op, (ast.Is, ast.IsNot)):
                            self.assertIsInstance(other, ast.Constant, (path, node.lineno))
                if isinstance(node, ast.Call) and isinstance(node.func, ast.Name) and node.func.id in ("any", "all", "sorted"):
                    self.assertNotIsInstance(node.args[0], ast.GeneratorExp, (path, node.lineno))
                if isinstance(node, ast.Call) and isinstance(node.func, ast.Name) and node.func.id == "reversed":
                    self.assertIn(getattr(node.args[0].func, "id", ""), ("list", "tuple", "sorted", "range"), (path, node.lineno))
                if isinstance(node, ast.Raise):
                    self.assertIsInstance(node.exc, ast.Call, (path, node.lineno))

    def test_names(self):
        for path, tree in trees():
            for name in bound_names(tree):
                self.assertNotIn(name, dir(builtins), path)
                self.assertNotIn(name, BARRED_NAMES, path)
                self.assertFalse(name.startswith(BARRED_BEGINS), (path, name))
                self.assertFalse(BARRED_ENTIRELY.fullmatch(name), (path, name))
            own = set(bound_names(tree))
            for node in ast.walk(tree):
                if isinstance(node, ast.Name) and node.id in dir(builtins) and node.id not in own:
                    self.assertIn(node.id, ALLOWED_BUILTINS, (path, node.lineno))

    def test_names_of_methods_and_fields(self):
        barred = tuple(begin for begin in BARRED_BEGINS if begin not in ("__", "_wall"))
        for path, tree in trees():
            for node in ast.walk(tree):
                name = node.name if isinstance(node, ast.FunctionDef) else node.attr if isinstance(node, ast.Attribute) else ""
                self.assertFalse(name.startswith(barred), (path, name))
                self.assertFalse(BARRED_ENTIRELY.fullmatch(name), (path, name))

    def test_words(self):
        for path in FILES:
            for word in re.findall(r"\w+", path.read_text(encoding="utf-8")):
                self.assertNotIn(word, BARRED_WORDS, path)

    def test_locals_do_not_hide(self):
        for path, tree in trees():
            known = {alias.asname or alias.name for node in tree.body if isinstance(node, ast.ImportFrom) for alias in node.names}
            known |= {node.name for node in classes_of(tree)}
            for function in ast.walk(tree):
                if isinstance(function, ast.FunctionDef):
                    self.assertFalse(known & set(bound_names(ast.Module(function.body, []))), (path, function.name))
                    self.assertFalse(known & {arg.arg for arg in function.args.args}, (path, function.name))

    def class_names(self):
        """The names of all methods, properties and attributes."""
        methods, properties, attributes = set(), set(), set()
        for path, tree in trees():
            for node in ast.walk(tree):
                if isinstance(node, ast.Attribute) and isinstance(node.ctx, ast.Store):
                    attributes.add(node.attr)
            for owner in classes_of(tree):
                own = [part for part in owner.body if isinstance(part, ast.FunctionDef)]
                for part in own:
                    decorators = [one.id for one in part.decorator_list if isinstance(one, ast.Name)]
                    if part.name.startswith("__"):
                        self.assertIn(part.name, SPECIAL_METHODS, path)
                    (properties if "property" in decorators else methods).add(part.name)
                names = {part.name for part in own}
                if "__getitem__" in names:
                    self.assertIn("__iter__", names)
        return methods, properties, attributes

    def test_classes(self):
        methods, properties, attributes = self.class_names()
        self.assertFalse(properties & methods)
        self.assertFalse(properties & attributes)
        self.assertFalse(properties & BUILTIN_METHODS)
        self.assertFalse({name for name in methods if not name.startswith("__")} & attributes)

    def test_methods_that_are_called(self):
        known = self.class_names()[0] | BUILTIN_METHODS
        for path, tree in trees():
            for node in ast.walk(tree):
                if isinstance(node, ast.Call) and isinstance(node.func, ast.Attribute):
                    self.assertIn(node.func.attr, known, (path, node.lineno))

    def test_interface(self):
        """What the document lists is defined in the very file, and each method in the very class."""
        for module, names in INTERFACE.items():
            tree = ast.parse((FOLDER / f"{module}.py").read_text())
            there = {node.name: node for node in tree.body if isinstance(node, (ast.FunctionDef, ast.ClassDef))}
            for name, methods in names.items():
                self.assertIn(name, there)
                if methods is None:
                    self.assertIsInstance(there[name], ast.FunctionDef)
                    continue
                own = {node.name for node in there[name].body if isinstance(node, ast.FunctionDef)}
                self.assertLessEqual(set(methods.split()), own, name)

    def test_stars_in_calls(self):
        for path, tree in trees():
            for node in ast.walk(tree):
                if isinstance(node, ast.Call):
                    for part in node.args:
                        if isinstance(part, ast.Starred):
                            self.assertIsInstance(part.value, (ast.Name, ast.Attribute), (path, node.lineno))

    def test_iterated_at_once(self):
        """Ranges, zips and views stand after the `in` of a loop, or first in what goes over them."""
        views = ("items", "keys", "values")
        for path, tree in trees():
            above = {id(part): node for node in ast.walk(tree) for part in ast.iter_child_nodes(node)}
            for node in ast.walk(tree):
                if not isinstance(node, ast.Call):
                    continue
                plain = isinstance(node.func, ast.Name) and node.func.id in ("range", "zip", "enumerate", "reversed", "map")
                if not plain and not (isinstance(node.func, ast.Attribute) and node.func.attr in views):
                    continue
                outer = above[id(node)]
                if isinstance(outer, (ast.For, ast.comprehension)):
                    self.assertIs(outer.iter, node, (path, node.lineno))
                    continue
                self.assertIsInstance(outer, ast.Call, (path, node.lineno))
                self.assertIs(outer.args[0], node, (path, node.lineno))
                whole = outer.func.id if isinstance(outer.func, ast.Name) else ""
                self.assertIn(whole, ("list", "tuple", "dict", "sorted", "sum", "any", "all", "enumerate", "zip"), (path, node.lineno))

    def test_generators(self):
        """No other function or method has a generator's name, and nothing is called by it here."""
        made = {node.name for _, tree in trees() for node in ast.walk(tree) if isinstance(node, ast.FunctionDef)
                if any(isinstance(part, (ast.Yield, ast.YieldFrom)) for part in ast.walk(node))}
        self.assertEqual(made, {"idle", "places"})
        for path, tree in trees():
            names = [node.name for node in ast.walk(tree) if isinstance(node, ast.FunctionDef) and node.name in made]
            self.assertEqual(names, {"parts": ["idle"], "rules": ["places"]}.get(path.stem, []))
            for node in ast.walk(tree):
                self.assertNotIn(getattr(node, "attr", None), made, path)
                self.assertFalse(isinstance(node, ast.Name) and node.id in made, (path, getattr(node, "lineno", 0)))

    def test_leaving_a_block(self):
        """The rows of `__exit__` are plain assignments, and tests of names and fields against None."""
        for path, tree in trees():
            for node in ast.walk(tree):
                if isinstance(node, ast.FunctionDef) and node.name == "__exit__":
                    for part in ast.walk(node):
                        self.assertNotIsInstance(part, (ast.Call, ast.For, ast.While, ast.Raise, ast.Subscript, ast.BinOp), (path, node.lineno))
                        if isinstance(part, ast.Compare):
                            self.assertIsInstance(part.comparators[0], ast.Constant)


if __name__ == "__main__":
    unittest.main()
