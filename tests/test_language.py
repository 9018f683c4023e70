"""The rules of the language subset that a look at the syntax can tell."""

import ast
import builtins
import os
import re
import unittest

import everypairing

FOLDER = os.path.dirname(os.path.abspath(everypairing.__file__))
LIBRARY = {
    "math": "gcd lcm isqrt comb perm factorial".split(),
    "itertools": "product combinations permutations chain accumulate pairwise islice".split(),
    "heapq": "heappush heappop heapify heapreplace heappushpop".split(),
}
BUILTINS = """
    len range enumerate zip min max sum abs sorted reversed int str bool bytes list tuple dict set
    isinstance ord repr any all divmod iter next super ValueError TypeError KeyError IndexError
    LookupError ZeroDivisionError True False None NotImplemented
""".split()
METHODS = """
    append clear copy count endswith extend find get index insert isalnum isalpha isdigit islower
    isspace isupper items join keys ljust lower lstrip partition pop remove replace reverse rfind
    rjust rpartition rsplit rstrip setdefault split splitlines startswith strip update upper values
    zfill bit_length
""".split()
STATEMENTS = (
    ast.FunctionDef, ast.ClassDef, ast.ImportFrom, ast.Assign, ast.AugAssign, ast.If, ast.While,
    ast.For, ast.Return, ast.Break, ast.Continue, ast.Pass, ast.Raise, ast.Assert, ast.Delete,
    ast.Nonlocal, ast.Try, ast.Expr,
)
NEVER = """
    register mro elements open input law version_info with_traceback add_note attrgetter breakpoint
    builtins compile copyright credits delattr dir eval exec exit gc getattr globals hasattr help id
    importlib license locals methodcaller os quit setattr type vars sys chr frozenset print
""".split()
WORDS = """
    typing typing_extensions enum Enum IntEnum StrEnum Flag IntFlag Generic Protocol ABC
    ABCMeta namedtuple NamedTuple TypedDict TYPE_CHECKING abstractmethod
""".split()
# Methods of live webs that have the names of fields of errors.
EVERYWHERE = ("row", "tie")
LAZY = ("zip", "enumerate", "reversed", "range", "map")
TAKING = ("list", "tuple", "dict", "sorted", "sum", "any", "all", "enumerate", "zip", "min", "max",
          "reversed", "len", "combinations", "permutations", "product")
BARRED_STARTS = ("_wall", "_pe_", "_dcw_", "_enum_", "_cm_", "_twin_re_", "_lay_", "_law_",
                 "_stub_", "_sre", "_cold", "_tuplegetter", "_outside", "_record", "_written_out",
                 "_member_names")


class File:
    def __init__(self, name):
        self.name = name
        with open(os.path.join(FOLDER, name), "rb") as file:
            self.data = file.read()
        self.text = self.data.decode("ascii")
        self.tree = ast.parse(self.text)
        self.parents = {
            child: node for node in ast.walk(self.tree) for child in ast.iter_child_nodes(node)}
        self.docstrings = {
            node.body[0].value for node in ast.walk(self.tree)
            if isinstance(node, (ast.Module, ast.ClassDef, ast.FunctionDef))
            and node.body and isinstance(node.body[0], ast.Expr)
            and isinstance(node.body[0].value, ast.Constant)}

    def all(self, *kinds):
        return [node for node in ast.walk(self.tree) if isinstance(node, kinds)]

    def imports(self):
        return self.all(ast.ImportFrom)

    def imported(self):
        return [alias.name for node in self.imports() for alias in node.names]

    def defined(self):
        names = [node.name for node in self.tree.body
                 if isinstance(node, (ast.FunctionDef, ast.ClassDef))]
        for node in self.tree.body:
            if isinstance(node, ast.Assign):
                names += [target.id for target in node.targets]
        return names

    def stored(self):
        """All names of parameters, variables and nested functions."""
        names = [node.id for node in self.all(ast.Name) if not isinstance(node.ctx, ast.Load)
                 and not isinstance(self.parents[self.parents[node]], ast.Module)]
        return names + [node.arg for node in self.all(ast.arg)]


FILES = [File(name) for name in sorted(os.listdir(FOLDER)) if name.endswith(".py")]
BY_MODULE = {"everypairing." + file.name[:-3]: file for file in FILES}


class Language(unittest.TestCase):
    def test_files(self):
        self.assertLessEqual(len(FILES), 100)
        for name in os.listdir(FOLDER):
            if name != "__pycache__":
                self.assertRegex(name, r"\A(__init__|[a-z][a-z0-9_]*)\.py\Z")
                self.assertFalse(name.startswith(("law_", "test")) or name[:-3] in dir(builtins))
        for file in FILES:
            self.assertRegex(file.data, rb"\A[ -~\n]*\Z", file.name)
            rows = file.text.split("\n")
            self.assertLessEqual(len(rows) - 1, 399, file.name)
            self.assertLessEqual(max(map(len, rows)), 120, file.name)
            self.assertEqual([row for row in rows if row != row.rstrip()], [], file.name)

    def test_functions_are_small(self):
        for file in FILES:
            for node in file.all(ast.FunctionDef):
                self.assertLessEqual(node.end_lineno - node.lineno + 1, 40, node.name)
                self.assertTrue(ast.get_docstring(node) or node.name in ("__init__", "__eq__"))
                for decorator in node.decorator_list:
                    self.assertEqual(decorator.id, "property")
                    self.assertIsInstance(file.parents[node], ast.ClassDef)
                    self.assertEqual([arg.arg for arg in node.args.args], ["self"])
                for default in node.args.defaults + node.args.kw_defaults:
                    ast.literal_eval(default)

    def test_imports(self):
        for file in FILES:
            self.assertEqual(file.all(ast.Import), [])
            for node in file.imports():
                self.assertEqual(node.level, 0)
                self.assertIn(node, file.tree.body)
                for alias in node.names:
                    self.assertIsNone(alias.asname)
                    if node.module in LIBRARY:
                        self.assertIn(alias.name, LIBRARY[node.module])
                    else:
                        self.assertIn(alias.name, BY_MODULE[node.module].defined())
                        self.assertNotEqual(node.module, "everypairing.__init__")
            bound = file.imported() + file.defined()
            self.assertEqual(len(set(bound)), len(bound), file.name)
            used = {node.id for node in file.all(ast.Name)}
            self.assertEqual(set(file.imported()) - used, set(), file.name)

    def test_no_imports_in_a_round(self):
        def reached(module, trail):
            self.assertNotIn(module, trail)
            for node in BY_MODULE[module].imports():
                if node.module not in LIBRARY:
                    reached(node.module, trail + [module])

        for module in BY_MODULE:
            reached(module, [])

    def test_module_level(self):
        for file in FILES:
            for at, node in enumerate(file.tree.body):
                if isinstance(node, ast.Expr):
                    self.assertEqual(at, 0)
                elif isinstance(node, ast.Assign):
                    self.assertIsInstance(node.targets[0], ast.Name)
                    self.check_plain(node.value, file.tree.body[:at])
                else:
                    self.assertIsInstance(node, (ast.FunctionDef, ast.ClassDef, ast.ImportFrom))

    def check_plain(self, value, ahead):
        """Numbers, strings, tuples and dicts of these, or a dict of functions defined above."""
        if isinstance(value, ast.Dict) and isinstance(value.values[0], ast.Name):
            functions = [node.name for node in ahead if isinstance(node, ast.FunctionDef)]
            for key, part in zip(value.keys, value.values):
                self.assertIsInstance(key.value, str)
                self.assertIn(part.id, functions)
        else:
            ast.literal_eval(value)

    def test_statements_and_expressions(self):
        for file in FILES:
            for node in file.all(ast.stmt):
                self.assertIsInstance(node, STATEMENTS)
            # Rules that this package makes stricter for itself.
            self.assertEqual(file.all(
                ast.GeneratorExp, ast.Yield, ast.YieldFrom, ast.Await, ast.NamedExpr, ast.Set,
                ast.SetComp, ast.Div, ast.Pow, ast.MatMult, ast.AnnAssign, ast.JoinedStr), [])
            for node in file.all(ast.Starred):
                self.assertIsInstance(file.parents[node], ast.Call)
                self.assertIsInstance(node.value, ast.Name)
            for node in file.all(ast.Try):
                self.assertEqual(node.finalbody + node.orelse, [])
                # Own errors alone, by one name, are caught.
                self.assertEqual([handler.type.id for handler in node.handlers], ["PairError"])
            for node in file.all(ast.Constant):
                self.assertIsInstance(node.value, (int, str, bool, type(None)), node.value)
            for node in file.all(ast.Compare):
                for sign, right in zip(node.ops, node.comparators):
                    if isinstance(sign, (ast.Is, ast.IsNot)):
                        self.assertIn(right.value, (None, True, False))
            for node in file.all(ast.Raise):
                self.assertIsInstance(node.exc, ast.Call)
                self.assertIsInstance(node.exc.func, ast.Name)

    def test_names(self):
        for file in FILES:
            names = file.stored() + file.defined() + [f.name for f in file.all(ast.FunctionDef)]
            for name in names:
                self.assertRegex(name, r"\A(_?[A-Za-z][A-Za-z0-9_]*|__init__|__eq__|_)\Z")
                self.assertNotIn(name, NEVER)
                self.assertNotIn(name, dir(builtins))
                self.assertFalse(name.startswith(BARRED_STARTS), name)
            classes = [node.name for node in file.all(ast.ClassDef)]
            self.assertEqual(set(file.stored()) & set(file.imported() + classes), set(), file.name)
            for node in file.all(ast.keyword):
                self.assertIn(node.arg, ("key", "reverse", "lot", "start"), file.name)

    def test_builtins(self):
        for file in FILES:
            known = set(file.stored() + file.defined() + file.imported() + BUILTINS)
            decorators = [part for node in file.all(ast.FunctionDef) for part in node.decorator_list]
            for node in file.all(ast.Name):
                if node not in decorators:
                    self.assertIn(node.id, known, (file.name, node.lineno))

    def test_methods_and_attributes(self):
        attributes = {node.attr for file in FILES for node in file.all(ast.Attribute)
                      if isinstance(node.ctx, ast.Store)}
        parts = [node for file in FILES for node in file.all(ast.FunctionDef)
                 if isinstance(file.parents[node], ast.ClassDef)]
        properties = {node.name for node in parts if node.decorator_list}
        methods = {node.name for node in parts} - properties
        self.assertEqual(attributes & (methods | properties), set(EVERYWHERE))
        attributes |= properties
        for file in FILES:
            for node in file.all(ast.Attribute):
                parent = file.parents[node]
                if isinstance(parent, ast.Call) and parent.func is node:
                    self.assertIn(node.attr, METHODS + sorted(methods), (file.name, node.lineno))
                    self.assertTrue(parent.keywords == [])
                elif node.attr == "__class__":
                    self.assertIsInstance(node.value, ast.Name)
                    self.assertEqual(parent.attr, "__name__")
                elif node.attr == "__name__":
                    self.assertEqual(node.value.attr, "__class__")
                else:
                    self.assertIn(node.attr, attributes)

    def test_sets_and_what_is_iterated_at_once(self):
        for file in FILES:
            for node in file.all(ast.Call):
                name = getattr(node.func, "id", getattr(node.func, "attr", None))
                parent = file.parents[node]
                outer = getattr(getattr(parent, "func", None), "id", None)
                if name == "set":
                    self.assertIn(outer, ("len", "sorted"), (file.name, node.lineno))
                    self.assertEqual(len(node.args), 1)
                if name in LAZY + ("items", "keys", "values"):
                    at_once = isinstance(parent, (ast.For, ast.comprehension)) and (
                        parent.iter is node)
                    taken = outer in TAKING and parent.args[0] is node
                    self.assertTrue(at_once or taken, (file.name, node.lineno))
                    if outer in ("reversed", "len"):
                        self.assertEqual(name, "range")

    def test_strings(self):
        for file in FILES:
            self.assertNotIn("_wall", file.text)
            self.assertNotIn("_WallAttr", file.text)
            for word in ("dataclass", "overload", "contextmanager"):
                self.assertNotIn(word, file.text)
            for node in file.all(ast.Constant):
                if isinstance(node.value, str):
                    self.assertNotIn("%", node.value)
                    self.assertNotIn("__", node.value)
                    if node not in file.docstrings:
                        found = re.findall(r"\w+", node.value)
                        self.assertEqual(set(found) & set(WORDS + ["type"]), set())
            self.assertNotIn("\\", file.text)
            for node in file.all(ast.Name):
                self.assertNotIn(node.id, WORDS)

    def test_nothing_that_is_iterated_over_is_changed(self):
        changing = ("append", "extend", "insert", "pop", "remove", "clear", "update", "setdefault")
        for file in FILES:
            for loop in file.all(ast.For):
                over = {node.id for node in ast.walk(loop.iter) if isinstance(node, ast.Name)}
                for node in ast.walk(ast.Module(loop.body, [])):
                    if isinstance(node, ast.Attribute) and node.attr in changing:
                        self.assertNotIn(getattr(node.value, "id", None), over)
                    if isinstance(node, ast.Subscript) and isinstance(node.ctx, ast.Store):
                        self.assertNotIn(getattr(node.value, "id", None), over)

    def test_a_lambda_a_line(self):
        for file in FILES:
            rows = [node.lineno for node in file.all(ast.Lambda)]
            self.assertEqual(len(set(rows)), len(rows))


if __name__ == "__main__":
    unittest.main()
