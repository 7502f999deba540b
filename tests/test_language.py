"""The rules of ../shared/LANGUAGE.md that a look at the files can tell; the others need a reader."""

import ast
import builtins
import pathlib
import re
import unittest

from tests.purity import Package, faults

TOP = pathlib.Path(__file__).resolve().parent.parent
PACKAGE = TOP / "linkbooks"
LIBRARY = {
    "heapq": ("heappush", "heappop", "heapify", "heapreplace", "heappushpop"),
    "math": ("gcd", "lcm", "isqrt", "comb", "perm", "factorial"),
    "itertools": ("product", "combinations", "permutations"),
}
BUILTINS = """len range enumerate zip min max sum abs sorted reversed int str bool bytes list tuple dict set frozenset
isinstance ord repr any all divmod iter next map super property staticmethod classmethod Exception ValueError TypeError
KeyError IndexError LookupError ZeroDivisionError ArithmeticError OverflowError RuntimeError NotImplementedError
AttributeError StopIteration NotImplemented""".split()
BARRED = """typing typing_extensions enum Enum IntEnum StrEnum Flag IntFlag Generic Protocol ABC ABCMeta namedtuple
NamedTuple TypedDict TYPE_CHECKING abstractmethod""".split()
NEVER = "register mro elements open input law version_info with_traceback add_note".split()
METHODS = """append clear copy count endswith extend find get index insert isalnum isalpha isdigit islower isspace isupper items
join keys ljust lower lstrip partition pop remove replace reverse rfind rjust rpartition rsplit rstrip setdefault split
splitlines startswith strip update upper values zfill bit_length isascii""".split()
MODULE_LEVEL = (ast.ImportFrom, ast.FunctionDef, ast.ClassDef, ast.Assign)
PLAIN = (ast.Constant, ast.Tuple, ast.List, ast.Dict, ast.Name, ast.BinOp, ast.UnaryOp, ast.operator, ast.unaryop, ast.expr_context)


def files():
    return sorted(PACKAGE.rglob("*.py"))


def trees():
    return [(path, ast.parse(path.read_text())) for path in files()]


def file_of(dotted):
    path = TOP.joinpath(*dotted.split("."))
    return path / "__init__.py" if path.is_dir() else path.with_suffix(".py")


def bound(tree):
    """The names that a file binds at its top, but for imports."""
    names = [node.name for node in tree.body if isinstance(node, (ast.FunctionDef, ast.ClassDef))]
    return names + [node.targets[0].id for node in tree.body if isinstance(node, ast.Assign)]


def is_plain(part):
    """Whether this can be a part of a plain value. Two stars in a dict are a key that is not there."""
    return isinstance(part, PLAIN) and not (isinstance(part, ast.Dict) and None in part.keys)


def not_plain(tree):
    """The constants at the top of a file that hold no plain value."""
    constants = [node for node in tree.body if isinstance(node, ast.Assign)]
    return [node for node in constants if not all(is_plain(part) for part in ast.walk(node.value))]


def is_docstring(node):
    return isinstance(node, ast.Expr) and isinstance(node.value, ast.Constant) and isinstance(node.value.value, str)


class LanguageTest(unittest.TestCase):
    def test_files(self):
        for path in PACKAGE.rglob("*"):
            if "__pycache__" not in path.parts:
                self.assertTrue(path.is_dir() or re.fullmatch(r"[a-z][a-z0-9_]*\.py|__(init|main)__\.py", path.name), path)
                self.assertTrue(path.is_file() or (path / "__init__.py").exists(), path)

    def test_sizes_and_signs(self):
        for path in files():
            lines = path.read_text().split("\n")
            self.assertLessEqual(len(lines) - 1, 399, path)
            for line in lines:
                self.assertTrue(len(line) <= 120 and re.fullmatch("[ -~]*", line), (path, line))

    def test_functions_are_small(self):
        for path, tree in trees():
            for node in ast.walk(tree):
                if isinstance(node, ast.FunctionDef):
                    self.assertLessEqual(node.end_lineno - node.lineno + 1, 40, (path, node.name))

    def test_module_level(self):
        for path, tree in trees():
            names = bound(tree)
            for node in tree.body:
                if isinstance(node, ast.ImportFrom):
                    names.extend(alias.asname or alias.name for alias in node.names)
                self.assertTrue(is_docstring(node) or isinstance(node, MODULE_LEVEL), (path, ast.dump(node)))
            self.assertEqual(len(names), len(set(names)), path)

    def test_constants_are_plain_values(self):
        """[L3] No starred value, comprehension, call, index, or anything else that is not written out."""
        for path, tree in trees():
            self.assertEqual([(node.lineno, ast.unparse(node)) for node in not_plain(tree)], [], path)

    def test_what_counts_as_a_plain_value(self):
        wrong = ("""(*LETTERS, "(", "+", ")", "'")""", "*LETTERS, 1", "[*LETTERS]", "[1, *(2, 3)]", "(1, (*LETTERS,))", "{1: [*LETTERS]}",
                 "{(*LETTERS,): 1}", "{**TABLE}", "{1: 2, **TABLE}", "[{**TABLE}]", "tuple(LETTERS)", "LETTERS[0]", "[k for k in LETTERS]",
                 "{1, 2}", "1 if LETTERS else 2")
        right = ("""("A", "B", "C", "(", "+", ")", "'")""", "()", "-1", "10 ** 60", "2 * (MANY + 1)", "True", "None", "b''", '"(*A)"',
                 "[1, (2, 3)]", "{}", "{1: [told], None: told}", "told")
        for text in (*wrong, *right):
            tree = ast.parse(f"FIRST = 1\nSECOND = {text}\ndef told(*rest):\n return (*rest, 1)")
            self.assertEqual([node.lineno for node in not_plain(tree)], [2] if text in wrong else [], text)

    def test_imports_name_the_file_that_defines(self):
        for path, tree in trees():
            for node in [node for node in ast.walk(tree) if isinstance(node, (ast.Import, ast.ImportFrom))]:
                self.assertIsInstance(node, ast.ImportFrom, path)
                self.assertEqual(node.level, 0, path)
                known = LIBRARY.get(node.module)
                if known is None:
                    self.assertTrue(node.module.startswith("linkbooks."), path)
                    known = bound(ast.parse(file_of(node.module).read_text()))
                for alias in node.names:
                    self.assertIn(alias.name, known, path)

    def test_imports_are_used(self):
        for path, tree in trees():
            used = {node.id for node in ast.walk(tree) if isinstance(node, ast.Name)}
            for node in [node for node in tree.body if isinstance(node, ast.ImportFrom)]:
                self.assertLessEqual({alias.name for alias in node.names}, used, path)

    def test_no_files_import_from_each_other(self):
        wanted = {}
        for path, tree in trees():
            modules = [node.module for node in tree.body if isinstance(node, ast.ImportFrom)]
            wanted[path] = [file_of(module) for module in modules if module.startswith("linkbooks.")]
        while wanted:
            ready = [path for path in wanted if not any(other in wanted for other in wanted[path])]
            self.assertTrue(ready, sorted(wanted))
            wanted = {path: wanted[path] for path in wanted if path not in ready}

    def test_builtins_and_names(self):
        for path, tree in trees():
            for node in ast.walk(tree):
                if isinstance(node, ast.Name) and hasattr(builtins, node.id):
                    self.assertIn(node.id, BUILTINS, path)
                    self.assertIsInstance(node.ctx, ast.Load, (path, node.id))
                if isinstance(node, (ast.arg, ast.Name, ast.Attribute, ast.FunctionDef)):
                    name = getattr(node, "arg", None) or getattr(node, "id", None)
                    name = name or getattr(node, "attr", None) or node.name
                    self.assertNotIn(name, NEVER, path)
                if isinstance(node, ast.arg):
                    self.assertFalse(hasattr(builtins, node.arg), (path, node.arg))

    def test_statements_and_values(self):
        barred = (ast.Global, ast.AsyncFunctionDef, ast.Await, ast.AsyncFor, ast.AsyncWith, ast.Div)
        for path, tree in trees():
            for node in ast.walk(tree):
                self.assertNotIsInstance(node, barred, path)
                if isinstance(node, ast.Constant):
                    self.assertNotIsInstance(node.value, (float, complex), path)
                    if isinstance(node.value, str):
                        self.assertNotIn("%", node.value, path)
                if isinstance(node, ast.ClassDef):
                    self.assertEqual(node.decorator_list, [], (path, node.name))

    def test_words_that_do_not_occur(self):
        for path, tree in trees():
            for node in ast.walk(tree):
                if hasattr(node, "body") and isinstance(node.body, list) and node.body and is_docstring(node.body[0]):
                    node.body[0].value = ast.Constant("")
            words = re.findall(r"\w+", ast.unparse(tree))
            for word in (*BARRED, "type"):
                self.assertNotIn(word, words, path)

    def test_no_generator_expressions_where_objects_compare(self):
        for path, tree in trees():
            for node in ast.walk(tree):
                if isinstance(node, ast.Call) and isinstance(node.func, ast.Name):
                    if node.func.id in ("any", "all", "min", "max", "sum", "sorted"):
                        self.assertNotIn(ast.GeneratorExp, [type(arg) for arg in node.args], (path, node.lineno))

    def test_methods_that_are_called(self):
        own = {node.name for _, tree in trees() for node in ast.walk(tree) if isinstance(node, ast.FunctionDef)}
        for path, tree in trees():
            for node in ast.walk(tree):
                if isinstance(node, ast.Call) and isinstance(node.func, ast.Attribute):
                    self.assertTrue(node.func.attr in own or node.func.attr in METHODS, (path, node.lineno))

    def test_double_underscore_methods(self):
        for path, tree in trees():
            for owner in [node for node in ast.walk(tree) if isinstance(node, ast.ClassDef)]:
                methods = {node.name: node for node in owner.body if isinstance(node, ast.FunctionDef)}
                self.assertEqual(len(methods), len([node for node in owner.body if isinstance(node, ast.FunctionDef)]))
                self.assertTrue("__getitem__" not in methods or "__iter__" in methods, (path, owner.name))
                for name in ("__eq__", "__str__", "__len__"):
                    for node in ast.walk(methods[name]) if name in methods else ():
                        self.assertNotIsInstance(node, (ast.Assign, ast.AugAssign, ast.Delete), (path, owner.name, name))
                for name, calls in (("__str__", ("str", "repr")), ("__len__", ("len",))):
                    for node in ast.walk(methods[name]) if name in methods else ():
                        if isinstance(node, ast.Return) and not isinstance(node.value, (ast.JoinedStr, ast.Constant)):
                            self.assertIn(node.value.func.id, calls, (path, owner.name, name))

    def test_names_of_properties_methods_and_attributes(self):
        properties, methods = set(), set()
        for path, tree in trees():
            for owner in [node for node in ast.walk(tree) if isinstance(node, ast.ClassDef)]:
                here = {node.name: node for node in owner.body if isinstance(node, ast.FunctionDef)}
                told = {name for name, node in here.items() if [each.id for each in node.decorator_list] == ["property"]}
                stored = {node.attr for node in ast.walk(owner) if isinstance(node, ast.Attribute) and isinstance(node.ctx, ast.Store)}
                self.assertFalse(stored & set(here), (path, owner.name))
                properties |= told
                methods |= set(here) - told
        self.assertFalse(properties & methods)
        self.assertFalse(properties & set(METHODS))

    def test_attributes_are_no_methods_elsewhere(self):
        """[L18] stricter than the rule: no name is both, in whatever classes."""
        stored, methods = set(), set()
        for _, tree in trees():
            for node in ast.walk(tree):
                if isinstance(node, ast.Attribute) and isinstance(node.ctx, ast.Store):
                    stored.add(node.attr)
                if isinstance(node, ast.ClassDef):
                    methods |= {each.name for each in node.body if isinstance(each, ast.FunctionDef)}
        self.assertFalse(stored & methods)

    def test_locals_hide_nothing(self):
        for path, tree in trees():
            outer = [alias.name for node in tree.body if isinstance(node, ast.ImportFrom) for alias in node.names]
            outer += [node.name for node in tree.body if isinstance(node, (ast.ClassDef, ast.FunctionDef))]
            for node in ast.walk(tree):
                if isinstance(node, ast.FunctionDef):
                    inner = {each.id for each in ast.walk(node) if isinstance(each, ast.Name) and isinstance(each.ctx, ast.Store)}
                    inner |= {each.arg for each in ast.walk(node) if isinstance(each, ast.arg)}
                    self.assertFalse(inner & set(outer), (path, node.name))

    def test_sets_stand_where_they_may(self):
        for path, tree in trees():
            inside = set()
            for node in ast.walk(tree):
                if isinstance(node, ast.Call) and isinstance(node.func, ast.Name) and node.func.id in ("sorted", "len"):
                    inside |= {id(arg) for arg in node.args if not node.keywords}
                if isinstance(node, ast.Assign) and isinstance(node.targets[0], ast.Name):
                    inside.add(id(node.value))
            for node in ast.walk(tree):
                called = isinstance(node, ast.Call) and isinstance(node.func, ast.Name) and node.func.id == "set"
                if called or isinstance(node, (ast.Set, ast.SetComp)):
                    self.assertIn(id(node), inside, (path, node.lineno))

    def test_operators_and_properties_change_nothing(self):
        package = Package(trees())
        self.assertGreater(len(package.roots), 60)
        for path, owner, node in package.roots:
            for other, each in package.all_run_by(path, node):
                # An error is made where it is raised; nothing else is there yet that could be changed.
                if other.name != "errors.py":
                    self.assertEqual(faults(each), [], (path, owner, node.name, other, each.name))

    def test_what_counts_as_a_change(self):
        text = "class Box:\n @property\n def many(self):\n  return told(self)\ndef told(box):\n {}\n return 1"
        wrong = ("box.n = 1", "box[1] = 2", "box.rows.append(1)", "yield box", "rows = box.rows; rows.pop()", "box.n += 1", "del box[1]", "n = 1; n += box")
        right = ("rows = []; rows.append(1)", "rows = list(box.rows); rows.pop()", "rows = {}; rows[1] = 2", "n = 1; n += 1", "n = box; n = n + box")
        for row in (*wrong, *right):
            package = Package([(pathlib.Path("box.py"), ast.parse(text.format(row)))])
            found = [fault for path, _, node in package.roots for _, each in package.all_run_by(path, node) for fault in faults(each)]
            self.assertEqual(bool(found), row in wrong, row)

    def test_a_block_ends_plainly(self):
        """[L6] Behind a block attributes are assigned attributes, and nothing else is done."""
        found = 0
        for path, tree in trees():
            for node in ast.walk(tree):
                if isinstance(node, ast.FunctionDef) and node.name == "__exit__":
                    found += 1
                    for row in node.body:
                        self.assertIsInstance(row, ast.Assign, path)
                        self.assertIsInstance(row.value, ast.Attribute, path)
                        self.assertEqual([type(target) for target in row.targets], [ast.Attribute], path)
        self.assertEqual(found, 1)

    def test_iteration_is_one_statement(self):
        """[L5] An object is iterated over as an attribute is, or not at all."""
        for path, tree in trees():
            for node in ast.walk(tree):
                if isinstance(node, ast.FunctionDef) and node.name == "__iter__":
                    self.assertEqual(len(node.body), 1, path)
                    row = node.body[0]
                    if not isinstance(row, ast.Raise):
                        self.assertIsInstance(row, ast.Return, path)
                        self.assertEqual(row.value.func.id, "iter", path)
                        self.assertIsInstance(row.value.args[0], ast.Attribute, path)
