"""The form of the code: the rules of the subset of Python that can be seen file by file."""

import ast
import builtins
import pathlib
import re
import unittest

FOLDER = pathlib.Path(__file__).resolve().parent.parent / "undertwo"
FILES = sorted(path for path in FOLDER.rglob("*") if "__pycache__" not in path.parts)

LIBRARY = {"math": {"gcd", "lcm", "isqrt", "comb"}, "itertools": {"product", "combinations", "permutations"}}
BUILTINS = set("""
    len range enumerate zip min max sum abs sorted reversed int str bool list tuple dict set isinstance ord repr any
    all divmod
""".split())
METHODS = set("""
    append clear copy count endswith extend find get index insert isalnum isalpha isdigit islower isspace isupper
    items join keys ljust lower lstrip partition pop remove replace reverse rfind rjust rpartition rsplit rstrip
    setdefault split splitlines startswith strip update upper values zfill bit_length add
""".split())
BARRED = set("""
    mro elements open input law version_info with_traceback add_note register attrgetter breakpoint builtins compile
    copyright credits delattr dir eval exec exit gc getattr globals hasattr help id importlib license locals
    methodcaller os quit setattr super type vars sys iter next map filter print hash format
""".split())
WORDS = set("""
    type typing typing_extensions enum Enum IntEnum StrEnum Flag IntFlag Generic Protocol ABC ABCMeta namedtuple
    NamedTuple TypedDict TYPE_CHECKING abstractmethod dataclass overload contextmanager
""".split())
STATEMENTS = (ast.Assign, ast.AugAssign, ast.If, ast.While, ast.For, ast.Return, ast.Break, ast.Continue, ast.Pass,
              ast.Raise, ast.Assert, ast.Delete, ast.Try, ast.Expr, ast.FunctionDef, ast.ClassDef, ast.ImportFrom)


def trees():
    return [(path, ast.parse(path.read_text(encoding="utf-8"))) for path in FILES]


def without_docstrings(tree):
    """All nodes but docstrings."""
    docs = set()
    for node in ast.walk(tree):
        if isinstance(node, (ast.Module, ast.FunctionDef, ast.ClassDef)) and ast.get_docstring(node) is not None:
            docs.add(id(node.body[0]))
            docs.add(id(node.body[0].value))
    return [node for node in ast.walk(tree) if id(node) not in docs]


def own_methods():
    """The names of all methods of the package."""
    return {node.name for _, tree in trees() for kind in ast.walk(tree) if isinstance(kind, ast.ClassDef)
            for node in kind.body if isinstance(node, ast.FunctionDef)}


def parents(tree):
    return {id(child): node for node in ast.walk(tree) for child in ast.iter_child_nodes(node)}


def bound_names(tree):
    """All names that the file gives to something."""
    for node in ast.walk(tree):
        if isinstance(node, (ast.FunctionDef, ast.ClassDef)):
            yield node.name
        elif isinstance(node, ast.arg):
            yield node.arg
        elif isinstance(node, ast.Name) and isinstance(node.ctx, ast.Store):
            yield node.id
        elif isinstance(node, ast.ImportFrom):
            yield from (alias.asname or alias.name for alias in node.names)
        elif isinstance(node, ast.Attribute):
            yield node.attr


class Form(unittest.TestCase):

    def test_files(self):
        self.assertIn(FOLDER / "__init__.py", FILES)
        self.assertLessEqual(len(FILES), 100)
        for path in FILES:
            self.assertRegex(path.name, r"^[a-z_][a-z0-9_]*\.py$")
            self.assertNotIn(path.stem, dir(builtins))
            text = path.read_text(encoding="utf-8")
            self.assertRegex(text, r"^[\n -~]*\n$", path)
            rows = text.split("\n")[:-1]
            self.assertLessEqual(len(rows), 399, path)
            self.assertLessEqual(max(map(len, rows)), 120, path)
            for word in ("_wall", "_WallAttr", "\\r", "\\x"):
                self.assertNotIn(word, text, path)

    def test_functions_are_small_and_plain(self):
        for path, tree in trees():
            for node in ast.walk(tree):
                if isinstance(node, (ast.FunctionDef, ast.ClassDef)):
                    self.assertEqual(node.decorator_list, [], path)
                    self.assertIsNotNone(ast.get_docstring(node) or node.name == "__init__" or None, node.name)
                if isinstance(node, ast.FunctionDef):
                    self.assertLessEqual(node.end_lineno - node.lineno + 1, 40, (path, node.name))

    def test_statements_and_values(self):
        for path, tree in trees():
            for node in without_docstrings(tree):
                where = (path.name, getattr(node, "lineno", 0))
                if isinstance(node, ast.stmt):
                    self.assertIsInstance(node, STATEMENTS, where)
                if isinstance(node, ast.Expr):
                    self.assertIsInstance(node.value, ast.Call, where)
                if isinstance(node, ast.Constant):
                    self.assertIn(type(node.value), (int, str, bool, type(None)), where)
                    if isinstance(node.value, str):
                        self.assertNotIn("%", node.value, where)
                self.assertNotIsInstance(node, (ast.Div, ast.MatMult, ast.GeneratorExp, ast.Yield, ast.Lambda,
                                                ast.NamedExpr, ast.Global, ast.Nonlocal, ast.AnnAssign), where)
                if isinstance(node, ast.BinOp) and isinstance(node.op, ast.Pow):
                    self.assertIsInstance(node.right, ast.Constant, where)
                    self.assertIn(node.right.value, range(65), where)
                if isinstance(node, ast.Compare) and any(isinstance(op, (ast.Is, ast.IsNot)) for op in node.ops):
                    self.assertIsInstance(node.comparators[0], ast.Constant, where)

    def test_module_level(self):
        for path, tree in trees():
            bound = []
            for at, node in enumerate(tree.body):
                if at == 0:
                    self.assertIsNotNone(ast.get_docstring(tree), path)
                elif isinstance(node, ast.Assign):
                    self.assertIsInstance(node.targets[0], ast.Name)
                    self.assertEqual(len(node.targets), 1)
                    bound.append(node.targets[0].id)
                else:
                    self.assertIsInstance(node, (ast.ImportFrom, ast.FunctionDef, ast.ClassDef), (path, node.lineno))
                    bound += [alias.name for alias in node.names] if isinstance(node, ast.ImportFrom) else [node.name]
            self.assertEqual(len(bound), len(set(bound)), path)

    def test_imports(self):
        stands = {f"undertwo.{path.stem}": {node.name if not isinstance(node, ast.Assign) else node.targets[0].id
                                            for node in tree.body[1:] if not isinstance(node, ast.ImportFrom)}
                  for path, tree in trees()}
        asks = {}
        for path, tree in trees():
            kinds = [isinstance(node, ast.ImportFrom) for node in tree.body[1:]]
            self.assertEqual(kinds, sorted(kinds, reverse=True), path)
            asks[f"undertwo.{path.stem}"] = set()
            for node in ast.walk(tree):
                self.assertNotIsInstance(node, ast.Import, path)
                if isinstance(node, ast.ImportFrom):
                    self.assertEqual(node.level, 0, path)
                    names = {alias.name for alias in node.names}
                    self.assertTrue(all(alias.asname is None for alias in node.names), path)
                    if node.module in LIBRARY:
                        self.assertLessEqual(names, LIBRARY[node.module], path)
                    else:
                        self.assertLessEqual(names, stands[node.module], path)
                        asks[f"undertwo.{path.stem}"].add(node.module)
        done = set()
        while len(done) < len(asks):
            ready = {name for name, others in asks.items() if others <= done} - done
            self.assertTrue(ready, "files import from each other")
            done |= ready

    def test_names(self):
        for path, tree in trees():
            for name in bound_names(tree):
                self.assertRegex(name, r"^_?[A-Za-z][A-Za-z0-9_]*$|^_$|^__init__$|^__class__$|^__name__$", path)
                self.assertNotRegex(name, r"^_(wall|pe_|dcw_|enum_|cm_|twin_re_|lay_|law_|stub_|sre)", path)
                self.assertNotRegex(name, r"^_(cold|tuplegetter|outside|record|written_out|member_names)[0-9_]*$", path)
                self.assertNotIn(name, BARRED, path)
                self.assertNotIn(name, set(dir(builtins)) - {"_", "__name__"}, path)
            used = {node.id for node in ast.walk(tree) if isinstance(node, ast.Name)}
            self.assertFalse(used & WORDS, path)
            imports = {alias.name for node in tree.body if isinstance(node, ast.ImportFrom) for alias in node.names}
            self.assertLessEqual(imports, used, path)
            for node in ast.walk(tree):
                if isinstance(node, ast.Name) and isinstance(node.ctx, ast.Store):
                    self.assertNotIn(node.id, imports, path)
                if isinstance(node, ast.arg):
                    self.assertNotIn(node.arg, imports, path)

    def test_the_name_of_a_class_is_read_in_one_way(self):
        for path, tree in trees():
            above = parents(tree)
            for node in ast.walk(tree):
                if isinstance(node, ast.Attribute) and node.attr == "__class__":
                    self.assertIsInstance(node.value, ast.Name, path)
                    self.assertEqual(above[id(node)].attr, "__name__", path)
                if isinstance(node, ast.Attribute) and node.attr == "__name__":
                    self.assertEqual(node.value.attr, "__class__", path)

    def test_classes(self):
        methods = own_methods()
        for path, tree in trees():
            for kind in ast.walk(tree):
                if isinstance(kind, ast.ClassDef):
                    names = [node.name for node in kind.body if isinstance(node, ast.FunctionDef)]
                    self.assertEqual(len(names), len(set(names)), kind.name)
                    for node in kind.body:
                        doc = isinstance(node, ast.Expr) and isinstance(node.value, ast.Constant)
                        self.assertTrue(doc or isinstance(node, ast.FunctionDef), (path, node.lineno))
            for node in ast.walk(tree):
                if isinstance(node, ast.Attribute) and isinstance(node.ctx, ast.Store):
                    self.assertIsInstance(node.value, ast.Name, (path, node.lineno))
                    self.assertNotIn(node.attr, methods | METHODS, (path, node.lineno))

    def test_tables_of_functions(self):
        for path, tree in trees():
            known = set()
            for node in tree.body:
                if isinstance(node, ast.Assign):
                    named = {inner.id for inner in ast.walk(node.value) if isinstance(inner, ast.Name)}
                    self.assertLessEqual(named, known, path)
                if isinstance(node, ast.FunctionDef):
                    known.add(node.name)

    def test_calls(self):
        methods = METHODS | own_methods()
        for path, tree in trees():
            own = {node.name for node in ast.walk(tree) if isinstance(node, (ast.FunctionDef, ast.ClassDef))}
            own |= {alias.name for node in tree.body if isinstance(node, ast.ImportFrom) for alias in node.names}
            # A function of a table is given a name before it is called.
            own |= {node.targets[0].id for node in ast.walk(tree) if isinstance(node, ast.Assign)
                    and isinstance(node.value, ast.Subscript) and isinstance(node.value.value, ast.Name)
                    and node.value.value.id.isupper() and isinstance(node.targets[0], ast.Name)}
            for node in ast.walk(tree):
                if isinstance(node, ast.Call):
                    where = (path.name, node.lineno)
                    if isinstance(node.func, ast.Name):
                        self.assertIn(node.func.id, own | BUILTINS, where)
                    else:
                        self.assertIsInstance(node.func, ast.Attribute, where)
                        if node.func.attr != "__init__":
                            self.assertIn(node.func.attr, methods, where)
                            self.assertEqual(node.keywords, [], where)
                    if isinstance(node.func, ast.Name) and node.func.id in BUILTINS:
                        self.assertLessEqual({word.arg for word in node.keywords}, {"default", "key", "reverse"}, where)

    def test_sets_and_things_iterated_at_once(self):
        at_once = {"list", "tuple", "dict", "sorted", "sum", "any", "all", "enumerate", "zip", "min", "max",
                   "combinations", "product", "permutations"}
        for path, tree in trees():
            above = parents(tree)
            for node in ast.walk(tree):
                where = (path.name, getattr(node, "lineno", 0))
                over = above.get(id(node))
                called = node.func.id if isinstance(node, ast.Call) and isinstance(node.func, ast.Name) else None
                around = over.func.id if isinstance(over, ast.Call) and isinstance(over.func, ast.Name) else None
                if isinstance(node, (ast.Set, ast.SetComp)) or called == "set":
                    self.assertIn(around, ("sorted", "len"), where)
                if called in ("zip", "enumerate", "reversed", "range"):
                    iterated = isinstance(over, (ast.For, ast.comprehension)) and over.iter is node
                    self.assertTrue(iterated or around in at_once, where)

    def test_errors_are_made_on_the_spot_and_caught_by_name(self):
        for path, tree in trees():
            for node in ast.walk(tree):
                if isinstance(node, ast.Raise):
                    self.assertIsInstance(node.exc, ast.Call, path)
                    self.assertRegex(node.exc.func.id, r"^[A-Z]", path)
                    self.assertEqual((len(node.exc.args), node.exc.keywords), (1, []), path)
                if isinstance(node, ast.ExceptHandler):
                    self.assertRegex(node.type.id, r"^[A-Z]", path)
                    self.assertNotIn(node.type.id, dir(builtins), path)

    def test_loops_do_not_change_what_they_go_over(self):
        changing = re.compile(r"^(append|extend|insert|pop|remove|clear|setdefault|update|add|discard|reverse)$")
        for path, tree in trees():
            for loop in ast.walk(tree):
                if isinstance(loop, ast.For):
                    gone_over = {node.id for node in ast.walk(loop.iter) if isinstance(node, ast.Name)}
                    for node in (inner for row in loop.body for inner in ast.walk(row)):
                        if isinstance(node, ast.Call) and isinstance(node.func, ast.Attribute):
                            if changing.match(node.func.attr) and isinstance(node.func.value, ast.Name):
                                self.assertNotIn(node.func.value.id, gone_over, (path.name, node.lineno))
                        if isinstance(node, ast.Subscript) and isinstance(node.ctx, ast.Store):
                            if isinstance(node.value, ast.Name):
                                self.assertNotIn(node.value.id, gone_over, (path.name, node.lineno))


if __name__ == "__main__":
    unittest.main()
