"""The form of the code: the rules of LANGUAGE.md that a machine can see, on every file."""

import ast
import builtins
import pathlib
import re
import unittest

PACKAGE = pathlib.Path(__file__).resolve().parent.parent / "hopkeep"
FILES = sorted(PACKAGE.glob("*.py"))

BUILTINS = set("""len range enumerate zip min max sum abs sorted reversed int str bool bytes list tuple
    dict set isinstance ord repr any all divmod Exception ValueError TypeError KeyError IndexError
    LookupError ZeroDivisionError ArithmeticError OverflowError RuntimeError NotImplementedError
    AttributeError NotImplemented super map iter next property staticmethod classmethod""".split())
METHODS = set("""append clear copy count endswith extend find get index insert isalnum isalpha isdigit
    islower isspace isupper items join keys ljust lower lstrip partition pop remove replace reverse
    rfind rjust rpartition rsplit rstrip setdefault split splitlines startswith strip update upper
    values zfill bit_length title capitalize swapcase casefold center expandtabs removeprefix
    removesuffix rindex isascii isdecimal isnumeric istitle isidentifier isprintable translate
    add discard sort""".split())
TAKEN = {name for kind in (str, list, dict, set, bytes, int, tuple) for name in dir(kind)}
DUNDERS = set("""__init__ __eq__ __repr__ __str__ __len__ __call__ __iter__ __lt__ __le__ __gt__ __ge__
    __add__ __sub__ __mul__ __and__ __or__ __xor__ __bool__ __contains__""".split())
BARRED = set("""register mro elements open input law version_info with_traceback add_note attrgetter
    breakpoint builtins compile copyright credits delattr dir eval exec exit gc globals help id
    importlib license locals methodcaller os quit vars sys""".split())
WORDS = re.compile(r"\b(type|typing|enum|Enum|Flag|Generic|Protocol|ABC|namedtuple|overload|dataclass)\b")
LIBRARY = {"heapq": {"heappush", "heappop"}, "math": {"gcd", "lcm", "isqrt", "comb"},
           "itertools": {"product", "combinations", "permutations"}, "collections": {"deque"}}
STATEMENTS = (ast.FunctionDef, ast.ClassDef, ast.Return, ast.Delete, ast.Assign, ast.AugAssign, ast.For,
              ast.While, ast.If, ast.Raise, ast.Try, ast.Assert, ast.ImportFrom, ast.Expr, ast.Pass,
              ast.Break, ast.Continue, ast.Nonlocal, ast.With, ast.Match)
SHORT_CUTS = ("any", "all", "min", "max", "sum", "sorted")


def trees():
    return [(file, ast.parse(file.read_text(encoding="utf-8"))) for file in FILES]


def nodes(kind):
    return [(f"{file.name}:{getattr(node, 'lineno', 0)}", node)
            for file, tree in trees() for node in ast.walk(tree) if isinstance(node, kind)]


def bound_names(tree):
    """The names that are bound anywhere in a file."""
    for node in ast.walk(tree):
        if isinstance(node, ast.Name) and isinstance(node.ctx, ast.Store):
            yield node.id
        elif isinstance(node, ast.arg):
            yield node.arg
        elif isinstance(node, (ast.FunctionDef, ast.ClassDef)):
            yield node.name


class FormTest(unittest.TestCase):
    def test_files(self):
        for path in PACKAGE.iterdir():
            self.assertTrue(path.suffix == ".py" or path.name == "__pycache__", path.name)
        for file in FILES:
            text = file.read_text(encoding="utf-8")
            lines = text.split("\n")
            self.assertLessEqual(len(lines), 399, file.name)
            self.assertLessEqual(max(len(line) for line in lines), 120, file.name)
            self.assertTrue(all(c == "\n" or " " <= c <= "~" for c in text), file.name)
            self.assertRegex(file.name, r"^[a-z0-9_]+\.py$")

    def test_functions_are_small(self):
        for place, node in nodes(ast.FunctionDef):
            self.assertLessEqual(node.end_lineno - node.lineno + 1, 40, place)
            for one in node.decorator_list:
                self.assertIn(ast.unparse(one).split(".")[-1],
                              ("property", "staticmethod", "classmethod", "setter"), place)
            if node.name.startswith("__"):
                self.assertIn(node.name, DUNDERS, place)

    def test_statements_and_expressions(self):
        for place, node in nodes(ast.stmt):
            self.assertIsInstance(node, STATEMENTS, place)
        for place, node in nodes(ast.Compare):
            for op, right in zip(node.ops, node.comparators):
                if isinstance(op, (ast.Is, ast.IsNot)):
                    self.assertEqual(ast.unparse(right), "None", place)
        for place, node in nodes(ast.BinOp):
            self.assertNotIsInstance(node.op, (ast.Div, ast.MatMult), place)

    def test_constants(self):
        for file, tree in trees():
            docs = {id(node.body[0].value) for node in ast.walk(tree)
                    if isinstance(node, (ast.Module, ast.ClassDef, ast.FunctionDef))
                    and ast.get_docstring(node) is not None}
            for node in ast.walk(tree):
                if isinstance(node, ast.Constant) and id(node) not in docs:
                    self.assertNotIsInstance(node.value, (float, complex, bytes), file.name)
                    if isinstance(node.value, str):
                        self.assertNotIn("%", node.value, file.name)
                        self.assertNotRegex(node.value, WORDS)

    def test_imports(self):
        known = {file.stem for file in FILES}
        uses = {}
        for file, tree in trees():
            for node in tree.body:
                if isinstance(node, ast.ImportFrom):
                    self.assertEqual(node.level, 0)
                    self.assertTrue(all(one.asname is None for one in node.names))
                    if node.module in LIBRARY:
                        self.assertLessEqual({one.name for one in node.names}, LIBRARY[node.module])
                        continue
                    self.assertRegex(node.module, r"^hopkeep\.\w+$")
                    stem = node.module.split(".")[1]
                    self.assertIn(stem, known)
                    uses.setdefault(file.stem, set()).add(stem)
                    other = ast.parse((PACKAGE / (stem + ".py")).read_text())
                    defined = {one.name for one in other.body if hasattr(one, "name")}
                    defined |= {one.targets[0].id for one in other.body if isinstance(one, ast.Assign)}
                    self.assertLessEqual({one.name for one in node.names}, defined, file.name)
        # No circle: files that use no file that is left can be taken away until none is left.
        left = dict(uses)
        while left:
            free = [stem for stem in left if not left[stem] & set(left)]
            self.assertTrue(free, left)
            for stem in free:
                del left[stem]

    def test_module_level(self):
        for file, tree in trees():
            for node in tree.body:
                self.assertIsInstance(node, (ast.Expr, ast.ImportFrom, ast.Assign, ast.FunctionDef,
                                             ast.ClassDef), file.name)
            names = [name for node in tree.body for name in (
                [one.name for one in node.names] if isinstance(node, ast.ImportFrom)
                else [node.targets[0].id] if isinstance(node, ast.Assign)
                else [node.name] if hasattr(node, "name") else [])]
            self.assertEqual(len(names), len(set(names)), file.name)

    def test_every_import_is_used(self):
        for file, tree in trees():
            read = {node.id for node in ast.walk(tree) if isinstance(node, ast.Name)}
            for node in ast.walk(tree):
                if isinstance(node, ast.ImportFrom):
                    self.assertLessEqual({one.name for one in node.names}, read, file.name)


class NamesTest(unittest.TestCase):
    def test_builtins(self):
        for place, node in nodes(ast.Name):
            if isinstance(node.ctx, ast.Load) and hasattr(builtins, node.id):
                self.assertIn(node.id, BUILTINS, place)

    def test_bound_names(self):
        methods = {node.name for _, kind in nodes(ast.ClassDef) for node in kind.body
                   if isinstance(node, ast.FunctionDef)}
        for file, tree in trees():
            imported = {one.name for node in ast.walk(tree) if isinstance(node, ast.ImportFrom)
                        for one in node.names}
            for name in bound_names(tree):
                where = f"{file.name}: {name}"
                self.assertTrue(name in methods or not hasattr(builtins, name), where)
                self.assertNotIn(name, BARRED, where)
                self.assertNotIn(name, imported, where)
                self.assertTrue(name in DUNDERS or not name.startswith("__"), where)

    def test_called_methods(self):
        own = {node.name for _, kind in nodes(ast.ClassDef) for node in kind.body
               if isinstance(node, ast.FunctionDef)}
        for place, node in nodes(ast.Call):
            if isinstance(node.func, ast.Attribute) and node.func.attr not in own | DUNDERS:
                self.assertIn(node.func.attr, METHODS, place)

    def test_own_methods_and_attributes(self):
        stored = {node.attr for _, node in nodes(ast.Attribute) if isinstance(node.ctx, ast.Store)}
        for name in stored:
            self.assertTrue(name not in TAKEN or name in ("count", "index", "copy", "add"), name)
        plain = {}
        special = {}
        for _, kind in nodes(ast.ClassDef):
            for node in kind.body:
                if isinstance(node, ast.FunctionDef):
                    (special if node.decorator_list else plain)[node.name] = True
        for name in special:
            self.assertNotIn(name, TAKEN)
            self.assertNotIn(name, plain)
        self.assertFalse(stored & (special.keys() | plain.keys()))

    def test_properties_come_before_their_setters(self):
        for place, kind in nodes(ast.ClassDef):
            names = [(node.name, ast.unparse(node.decorator_list[0])) for node in kind.body
                     if isinstance(node, ast.FunctionDef) and node.decorator_list]
            for name, decorator in names:
                if decorator.endswith(".setter"):
                    self.assertEqual(decorator, name + ".setter", place)
                    self.assertIn((name, "property"), names[:names.index((name, decorator))], place)

    def test_stars_stand_before_names(self):
        for place, node in nodes(ast.Call):
            for one in node.args:
                if isinstance(one, ast.Starred):
                    self.assertIsInstance(one.value, (ast.Name, ast.Attribute), place)

    def test_read_attributes_exist(self):
        known = {node.attr for _, node in nodes(ast.Attribute) if isinstance(node.ctx, ast.Store)}
        known |= {node.name for _, node in nodes(ast.FunctionDef)} | METHODS
        known |= {one.targets[0].id for _, kind in nodes(ast.ClassDef) for one in kind.body
                  if isinstance(one, ast.Assign)}
        for place, node in nodes(ast.Attribute):
            if not ast.unparse(node).endswith((".__class__", ".__class__.__name__", ".setter")):
                self.assertIn(node.attr, known, place)

    def test_classes_are_only_asked_for_their_names(self):
        found = nodes(ast.Attribute)
        outer = {id(node.value) for _, node in found if node.attr == "__name__"}
        for place, node in found:
            self.assertTrue(node.attr != "__class__" or id(node) in outer, place)

    def test_lists_instead_of_generators(self):
        for place, node in nodes(ast.Call):
            if isinstance(node.func, ast.Name) and node.func.id in SHORT_CUTS:
                for argument in node.args:
                    self.assertNotIsInstance(argument, ast.GeneratorExp, place)

    def test_handlers_catch_own_errors(self):
        for place, node in nodes(ast.ExceptHandler):
            for one in node.type.elts if isinstance(node.type, ast.Tuple) else [node.type]:
                self.assertIsInstance(one, ast.Name, place)
                self.assertFalse(hasattr(builtins, one.id), place)

    def test_len_returns_a_length(self):
        for place, node in nodes(ast.FunctionDef):
            if node.name in ("__len__", "__str__", "__repr__", "__bool__"):
                self.assertIsInstance(node.body[-1], ast.Return, place)
