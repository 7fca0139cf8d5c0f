"""That the package keeps to rules of LANGUAGE.md which a look at its syntax can tell."""

import ast
import pathlib
import re
import unittest

PACKAGE = pathlib.Path(__file__).resolve().parent.parent / "leaveledger"
FILES = sorted(PACKAGE.rglob("*.py"))
LIBRARY = {"heapq", "math", "itertools", "collections"}
BUILTINS = set((
    "len range enumerate zip min max sum abs sorted reversed int str bool bytes list tuple dict set frozenset isinstance "
    "ord repr any all divmod pow getattr hasattr setattr iter next map super Exception ValueError TypeError KeyError "
    "IndexError LookupError ZeroDivisionError ArithmeticError OverflowError RuntimeError NotImplementedError "
    "AttributeError StopIteration NotImplemented property staticmethod classmethod"
).split())
METHODS = set((
    "append clear copy count endswith extend find get index insert isalnum isalpha isdigit islower isspace isupper items "
    "join keys ljust lower lstrip partition pop remove replace reverse rfind rjust rpartition rsplit rstrip setdefault "
    "split splitlines startswith strip update upper values zfill bit_length sort title capitalize removeprefix "
    "removesuffix rindex isascii isdecimal isnumeric add discard"
).split())
STATEMENTS = (
    ast.Assign, ast.AugAssign, ast.AnnAssign, ast.If, ast.While, ast.For, ast.Return, ast.Break, ast.Continue, ast.Pass,
    ast.Raise, ast.Assert, ast.Delete, ast.Nonlocal, ast.Match, ast.With, ast.Try, ast.Expr, ast.FunctionDef, ast.ClassDef,
    ast.ImportFrom,
)
BARRED = {"register", "mro", "elements", "open", "input", "law", "version_info", "with_traceback", "add_note"}
BARRED_WORDS = set((
    "type typing typing_extensions enum Enum IntEnum StrEnum Flag IntFlag Generic Protocol ABC ABCMeta namedtuple "
    "NamedTuple TypedDict TYPE_CHECKING abstractmethod"
).split())
# A parameter has the name of a function of its file only where the document's interface names both so.
SAME_NAMES = {("takes", "machine"), ("judge_reason", "reason")}
CHANGING = {"append", "clear", "extend", "insert", "pop", "remove", "reverse", "setdefault", "update", "sort", "add", "discard"}
SPECIAL = {
    "__init__", "__eq__", "__repr__", "__str__", "__len__", "__enter__", "__exit__", "__call__", "__iter__", "__contains__",
    "__bool__",
}


def parsed(path):
    return ast.parse(path.read_text(encoding="utf-8"))


def names_bound(function):
    """The parameters and local variables of a function."""
    arguments = function.args
    found = [item.arg for item in arguments.posonlyargs + arguments.args + arguments.kwonlyargs]
    found += [item.arg for item in (arguments.vararg, arguments.kwarg) if item]
    for node in ast.walk(function):
        if isinstance(node, ast.Name) and isinstance(node.ctx, ast.Store):
            found.append(node.id)
    return found


def top_names(tree):
    """The names that a module binds."""
    found = []
    for node in tree.body:
        if isinstance(node, (ast.FunctionDef, ast.ClassDef)):
            found.append(node.name)
        elif isinstance(node, ast.ImportFrom):
            found += [alias.asname or alias.name for alias in node.names]
        elif isinstance(node, ast.Assign):
            found += [target.id for target in node.targets]
    return found


class LanguageTest(unittest.TestCase):
    def each_node(self, *kinds):
        for path in FILES:
            for node in ast.walk(parsed(path)):
                if isinstance(node, kinds):
                    yield f"{path.name}:{getattr(node, 'lineno', 0)}", node

    def test_files(self):
        self.assertTrue(len(FILES) <= 100)
        for path in PACKAGE.rglob("*"):
            if "__pycache__" not in path.parts:
                self.assertTrue(path.is_dir() or path.suffix == ".py", path)
                self.assertRegex(path.stem, r"^([a-z][a-z0-9_]*|__init__|__main__)$")

    def test_sizes_and_characters(self):
        for path in FILES:
            text = path.read_text(encoding="utf-8")
            self.assertRegex(text, r"^[ -~\n]*$", path)
            rows = text.split("\n")
            self.assertTrue(len(rows) <= 400, path)
            self.assertTrue(all(len(row) <= 120 for row in rows), path)
            self.assertNotIn("%", "".join(re.findall(r'"[^"\n]*"', text)), path)
        for place, node in self.each_node(ast.FunctionDef):
            self.assertTrue(node.end_lineno - node.lineno < 40, place)

    def test_statements(self):
        for place, node in self.each_node(ast.stmt):
            self.assertIsInstance(node, STATEMENTS, place)
        for place, node in self.each_node(ast.Expr):
            self.assertIsInstance(node.value, (ast.Call, ast.Constant, ast.Yield, ast.YieldFrom), place)
        for place, node in self.each_node(ast.FunctionDef, ast.ClassDef):
            self.assertEqual(node.decorator_list, [], place)

    def test_imports(self):
        for place, node in self.each_node(ast.ImportFrom):
            self.assertEqual(node.level, 0, place)
            top = node.module.split(".")[0]
            self.assertTrue(top == "leaveledger" or top in LIBRARY, place)
            self.assertTrue(all(alias.name != "*" and alias.asname is None for alias in node.names), place)
            if top == "leaveledger":
                path = PACKAGE.joinpath(*node.module.split(".")[1:]).with_suffix(".py")
                defined = [item.name for item in parsed(path).body if isinstance(item, (ast.FunctionDef, ast.ClassDef))]
                constants = [t.id for item in parsed(path).body if isinstance(item, ast.Assign) for t in item.targets]
                for alias in node.names:
                    self.assertIn(alias.name, defined + constants, place)

    def test_no_circles_of_imports(self):
        imports = {path.stem: set() for path in FILES}
        for path in FILES:
            for node in ast.walk(parsed(path)):
                if isinstance(node, ast.ImportFrom) and node.module.startswith("leaveledger."):
                    imports[path.stem].add(node.module.split(".")[1])
        done = set()
        while len(done) < len(imports):
            free = {name for name, others in imports.items() if name not in done and others <= done}
            self.assertTrue(free, set(imports) - done)
            done |= free

    def test_module_level(self):
        for path in FILES:
            tree = parsed(path)
            names = top_names(tree)
            self.assertEqual(len(names), len(set(names)), path)
            for node in tree.body:
                self.assertIsInstance(node, (ast.Expr, ast.ImportFrom, ast.FunctionDef, ast.ClassDef, ast.Assign), path)
                if isinstance(node, ast.Assign):
                    self.assertEqual(len(node.targets), 1)
                    self.assertFalse([part for part in ast.walk(node.value) if isinstance(part, ast.Call)], path)

    def test_module_lists_and_dicts_are_not_passed_on(self):
        for path in FILES:
            tree = parsed(path)
            kept = {node.targets[0].id for node in tree.body
                    if isinstance(node, ast.Assign) and isinstance(node.value, (ast.List, ast.Dict))}
            free = set()
            for node in ast.walk(tree):
                if isinstance(node, ast.Call) and isinstance(node.func, ast.Name) and node.func.id in BUILTINS:
                    free |= {id(part) for part in node.args}
                elif isinstance(node, ast.Subscript):
                    free.add(id(node.value))
                elif isinstance(node, ast.Attribute):
                    free.add(id(node.value))
                elif isinstance(node, ast.Compare):
                    free |= {id(part) for part in node.comparators}
                elif isinstance(node, (ast.For, ast.comprehension)):
                    free.add(id(node.iter))
            for node in ast.walk(tree):
                if isinstance(node, ast.Name) and node.id in kept and isinstance(node.ctx, ast.Load):
                    self.assertIn(id(node), free, f"{path.name}:{node.lineno}")

    def test_names(self):
        import builtins
        for path in FILES:
            tree = parsed(path)
            imported = {alias.name for node in tree.body if isinstance(node, ast.ImportFrom) for alias in node.names}
            classes = {node.name for node in tree.body if isinstance(node, ast.ClassDef)}
            functions = {node.name for node in tree.body if isinstance(node, ast.FunctionDef)}
            for name in functions | classes:
                self.assertFalse(hasattr(builtins, name), (path, name))
            for node in ast.walk(tree):
                if isinstance(node, ast.FunctionDef):
                    self.assertTrue(not node.name.startswith("__") or node.name in SPECIAL, (path, node.name))
                    for name in names_bound(node):
                        self.assertFalse(hasattr(builtins, name), (path, name))
                        self.assertNotIn(name, imported | classes | BARRED, path)
                        self.assertTrue(name not in functions or (node.name, name) in SAME_NAMES, (path, name))
                        self.assertFalse(name.startswith("__"), (path, name))

    def test_barred_words(self):
        for place, node in self.each_node(ast.Constant):
            if isinstance(node.value, str) and "\n" not in node.value:
                self.assertFalse(set(re.findall(r"\w+", node.value)) & (BARRED_WORDS - {"type"}), place)
        for place, node in self.each_node(ast.Name, ast.Attribute, ast.arg):
            name = getattr(node, "id", None) or getattr(node, "attr", None) or node.arg
            self.assertNotIn(name, BARRED | BARRED_WORDS, place)

    def test_builtins(self):
        import builtins
        for place, node in self.each_node(ast.Name):
            if hasattr(builtins, node.id):
                self.assertIn(node.id, BUILTINS, place)

    def test_values(self):
        for place, node in self.each_node(ast.Constant):
            self.assertNotIsInstance(node.value, (float, complex), place)
            self.assertFalse(node.value is Ellipsis, place)
        for place, node in self.each_node(ast.BinOp, ast.AugAssign):
            self.assertNotIsInstance(node.op, (ast.Div, ast.MatMult), place)
        for place, node in self.each_node(ast.Compare):
            for sign, right in zip(node.ops, node.comparators):
                if isinstance(sign, (ast.Is, ast.IsNot)):
                    self.assertTrue(isinstance(right, ast.Constant) and right.value in (None, True, False), place)

    def test_methods(self):
        own = {node.name for _, node in self.each_node(ast.FunctionDef)}
        # An attribute is called if it holds an object that can be called.
        own |= {node.attr for _, node in self.each_node(ast.Attribute) if isinstance(node.ctx, ast.Store)}
        for place, node in self.each_node(ast.Call):
            if isinstance(node.func, ast.Attribute):
                self.assertTrue(node.func.attr in METHODS or node.func.attr in own or node.func.attr in SPECIAL, place)

    def test_attributes_that_are_read_are_assigned(self):
        assigned = {node.attr for _, node in self.each_node(ast.Attribute) if isinstance(node.ctx, ast.Store)}
        methods = {node.name for _, node in self.each_node(ast.FunctionDef)}
        for place, node in self.each_node(ast.Attribute):
            if isinstance(node.ctx, ast.Load) and node.attr not in METHODS | SPECIAL | methods:
                self.assertIn(node.attr, assigned, place)

    def test_attributes_have_no_names_of_methods(self):
        barred = set((
            "items keys values pop update append clear extend insert remove reverse setdefault sort args encode decode hex fromhex format "
            "as_integer_ratio bit_count conjugate from_bytes is_integer to_bytes"
        ).split())
        for place, node in self.each_node(ast.Attribute):
            if isinstance(node.ctx, ast.Store):
                self.assertNotIn(node.attr, barred, place)
        stored = {node.attr for _, node in self.each_node(ast.Attribute) if isinstance(node.ctx, ast.Store)}
        for place, made in self.each_node(ast.ClassDef):
            for method in [node for node in made.body if isinstance(node, ast.FunctionDef)]:
                self.assertNotIn(method.name, stored, place)

    def test_calls_of_the_library(self):
        """What is imported from the library is only called, by its bare name."""
        for path in FILES:
            tree = parsed(path)
            names = {alias.name for node in tree.body if isinstance(node, ast.ImportFrom) and node.module in LIBRARY for alias in node.names}
            called = {id(node.func) for node in ast.walk(tree) if isinstance(node, ast.Call)}
            for node in ast.walk(tree):
                if isinstance(node, ast.Name) and node.id in names:
                    self.assertIn(id(node), called, f"{path.name}:{node.lineno}")

    def test_behind_blocks_attributes_are_given_back(self):
        """The rows of `__exit__` only give attributes what an attribute or a name has."""
        for place, node in self.each_node(ast.FunctionDef):
            if node.name == "__exit__":
                for row in node.body:
                    self.assertIsInstance(row, ast.Assign, place)
                    self.assertIsInstance(row.value, (ast.Attribute, ast.Name), place)
                    self.assertTrue(all(isinstance(target, (ast.Attribute, ast.Name)) for target in row.targets), place)

    def test_what_is_iterated_is_not_changed(self):
        for place, loop in self.each_node(ast.For):
            gone_over = {ast.unparse(node) for node in ast.walk(loop.iter) if isinstance(node, (ast.Name, ast.Attribute))}
            for node in [node for row in loop.body for node in ast.walk(row)]:
                if isinstance(node, ast.Call) and isinstance(node.func, ast.Attribute) and node.func.attr in CHANGING:
                    self.assertNotIn(ast.unparse(node.func.value), gone_over, place)
                elif isinstance(node, ast.Subscript) and not isinstance(node.ctx, ast.Load):
                    self.assertNotIn(ast.unparse(node.value), gone_over, place)

    def test_generators(self):
        """A generator has its name alone, returns no value, and is not used within the package."""
        functions = [node for _, node in self.each_node(ast.FunctionDef)]
        generators = [node for node in functions if any(isinstance(part, (ast.Yield, ast.YieldFrom)) for part in ast.walk(node))]
        names = [node.name for node in generators]
        self.assertEqual(names, ["words_of"])
        self.assertEqual([node.name for node in functions if node.name in names], names)
        for node in generators:
            self.assertFalse([part for part in ast.walk(node) if isinstance(part, ast.Return) and part.value], node.name)
        for place, node in self.each_node(ast.Name, ast.Attribute):
            self.assertNotIn(getattr(node, "id", None) or getattr(node, "attr", None), names, place)

    def test_calls_with_stars(self):
        """Behind a star in a call stand only names, attributes of names, and lists and tuples of such."""
        for place, node in self.each_node(ast.Call):
            for part in [part.value for part in node.args if isinstance(part, ast.Starred)]:
                plain = part.value if isinstance(part, ast.Attribute) else part
                self.assertIsInstance(plain, (ast.Name, ast.List, ast.Tuple), place)

    def test_operators_change_nothing(self):
        for place, node in self.each_node(ast.ClassDef):
            for method in node.body:
                if isinstance(method, ast.FunctionDef) and method.name in ("__contains__", "__bool__"):
                    rows = [row for row in method.body if not isinstance(row, ast.Expr)]
                    self.assertEqual([row.__class__ for row in rows], [ast.Return], place)

    def test_sets_are_not_stored(self):
        """A set stands behind `in`, in `sorted` or `len`, or is kept by a plain local variable."""
        for path in FILES:
            tree = parsed(path)
            free = set()
            for node in ast.walk(tree):
                if isinstance(node, ast.Compare):
                    free |= {id(part) for part in (node.left, *node.comparators)}
                elif isinstance(node, ast.Call) and isinstance(node.func, ast.Name) and node.func.id in ("sorted", "len"):
                    free |= {id(part) for part in node.args}
                elif isinstance(node, ast.Assign) and isinstance(node.targets[0], ast.Name):
                    free.add(id(node.value))
            for node in ast.walk(tree):
                is_call = isinstance(node, ast.Call) and isinstance(node.func, ast.Name) and node.func.id == "set"
                if is_call or isinstance(node, (ast.Set, ast.SetComp)):
                    self.assertIn(id(node), free, f"{path.name}:{node.lineno}")

    def test_what_is_iterated_at_once(self):
        for path in FILES:
            tree = parsed(path)
            free = set()
            for node in ast.walk(tree):
                if isinstance(node, (ast.For, ast.comprehension)):
                    free.add(id(node.iter))
                elif isinstance(node, ast.Call) and isinstance(node.func, ast.Name) and node.func.id in BUILTINS:
                    free |= {id(part) for part in node.args}
            for node in ast.walk(tree):
                if isinstance(node, ast.Call):
                    name = getattr(node.func, "id", None) or getattr(node.func, "attr", None)
                    if name in ("zip", "enumerate", "reversed", "range", "items", "keys", "values"):
                        self.assertIn(id(node), free, f"{path.name}:{node.lineno}")


if __name__ == "__main__":
    unittest.main()
