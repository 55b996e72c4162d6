"""The rules of the language that a look at the package's files can see: sizes, imports, names, builtins, signs."""
import ast
import builtins
import os
import re
import unittest

import crossingstold

FOLDER = os.path.dirname(os.path.abspath(crossingstold.__file__))
LIBRARY = {
    "heapq": {"heappush", "heappop", "heapify", "heapreplace", "heappushpop"},
    "math": {"gcd", "lcm", "isqrt", "comb", "perm", "factorial"},
    "itertools": {"product", "combinations", "permutations", "chain", "accumulate", "pairwise", "islice", "zip_longest"},
    "collections": {"defaultdict", "deque"},
}
BUILTINS = set((
    "len range enumerate zip min max sum abs sorted reversed int str bool bytes list tuple dict set frozenset isinstance "
    "ord repr any all divmod pow getattr hasattr setattr iter next map type super print property staticmethod classmethod "
    "object Exception ValueError TypeError KeyError IndexError LookupError ZeroDivisionError ArithmeticError "
    "OverflowError RuntimeError NotImplementedError AttributeError StopIteration NotImplemented").split())
# Not "_", which a doctest leaves there.
PYTHONS_OWN = {name for name in dir(builtins) if name != "_"}
WORDS = re.compile(
    r"\b(typing|typing_extensions|enum|Enum|IntEnum|StrEnum|Flag|IntFlag|Generic|Protocol|ABC|ABCMeta|namedtuple|"
    r"NamedTuple|TypedDict|TYPE_CHECKING|abstractmethod|register|mro|elements|open|input|law|with_traceback|add_note|"
    r"breakpoint|compile|copyright|credits|dir|eval|exec|exit|gc|globals|help|id|importlib|license|locals|quit|vars)\b")
NOT_ALLOWED = (ast.Div, ast.MatMult, ast.AsyncFunctionDef, ast.AsyncFor, ast.AsyncWith, ast.Await)


def package_files():
    """(name, text, tree) of each file of the package."""
    told = []
    for name in sorted(os.listdir(FOLDER)):
        if name != "__pycache__":
            with open(os.path.join(FOLDER, name), encoding="ascii") as file:
                text = file.read()
            told.append((name, text, ast.parse(text)))
    return told


def imports_of(tree):
    """(module, names) of each import of a file."""
    return [(node.module, [alias.name for alias in node.names])
            for node in ast.walk(tree) if isinstance(node, ast.ImportFrom)]


def bound_names(tree):
    """All names that parameters, assignments and loops of a file bind, within functions and outside of them."""
    names = [node.arg for node in ast.walk(tree) if isinstance(node, ast.arg)]
    return names + [node.id for node in ast.walk(tree) if isinstance(node, ast.Name) and isinstance(node.ctx, ast.Store)]


class Language(unittest.TestCase):
    def test_files_are_plain(self):
        names = [name for name, _, _ in package_files()]
        self.assertIn("__init__.py", names)
        for name in names:
            self.assertRegex(name, r"^[a-z_][a-z0-9_]*\.py$")
            self.assertFalse(name.startswith("test"), name)

    def test_sizes_and_signs(self):
        for name, text, tree in package_files():
            lines = text.split("\n")
            self.assertLessEqual(len(lines), 400, name)
            self.assertTrue(text.endswith("\n"), name)
            for line in lines:
                self.assertLessEqual(len(line), 120, (name, line))
                self.assertNotRegex(line, r"[^ -~]", (name, line))
            for node in ast.walk(tree):
                if isinstance(node, (ast.FunctionDef, ast.Lambda)):
                    self.assertLessEqual(node.end_lineno - node.lineno + 1, 40, (name, node.lineno))

    def test_imports(self):
        defined = {"crossingstold." + name[:-3]: {node.name for node in tree.body if hasattr(node, "name")} | {
            target.id for node in tree.body if isinstance(node, ast.Assign) for target in node.targets}
            for name, _, tree in package_files()}
        for name, _, tree in package_files():
            self.assertFalse([node for node in ast.walk(tree) if isinstance(node, ast.Import)], name)
            for module, words in imports_of(tree):
                self.assertLessEqual(set(words), defined.get(module, LIBRARY.get(module, set())), (name, module))

    def test_no_two_files_import_from_each_other(self):
        above = {"crossingstold." + name[:-3]: {module for module, _ in imports_of(tree) if module not in LIBRARY}
                 for name, _, tree in package_files()}
        while above:
            free = [module for module, needed in above.items() if not needed & set(above)]
            self.assertTrue(free, above)
            for module in free:
                del above[module]

    def test_each_name_is_bound_once_in_a_file_and_no_name_is_hidden(self):
        for name, _, tree in package_files():
            told = [word for _, words in imports_of(tree) for word in words]
            fixed = told + [node.name for node in tree.body if isinstance(node, ast.ClassDef)]
            told += [node.name for node in tree.body if hasattr(node, "name")]
            told += [target.id for node in tree.body if isinstance(node, ast.Assign) for target in node.targets]
            self.assertEqual(len(told), len(set(told)), name)
            for word in bound_names(tree):
                self.assertNotIn(word, fixed, name)
            for word in bound_names(tree) + told:
                self.assertNotIn(word, PYTHONS_OWN, name)
                self.assertNotRegex(word, WORDS, name)
                self.assertRegex(word, r"^(_?[A-Za-z][A-Za-z0-9_]*|_)$", name)

    def test_imported_names_are_used(self):
        for name, _, tree in package_files():
            used = {node.id for node in ast.walk(tree) if isinstance(node, ast.Name)}
            for module, words in imports_of(tree):
                self.assertLessEqual(set(words), used, (name, module))

    def test_builtins_and_kinds_of_expressions(self):
        for name, _, tree in package_files():
            for node in ast.walk(tree):
                where = (name, getattr(node, "lineno", 0))
                if isinstance(node, ast.Name) and node.id in PYTHONS_OWN:
                    self.assertIn(node.id, BUILTINS, where)
                self.assertNotIsInstance(node, NOT_ALLOWED, where)
                if isinstance(node, ast.Constant):
                    self.assertNotIsInstance(node.value, (float, complex), where)
                    if isinstance(node.value, str):
                        self.assertNotIn("%", node.value, where)
                if isinstance(node, ast.FunctionDef):
                    self.assertTrue(ast.get_docstring(node) or node.name.startswith("__"), where)
                if isinstance(node, ast.BinOp) and isinstance(node.op, ast.Pow):
                    self.assertIsInstance(node.right, ast.Constant, where)
                    self.assertIn(node.right.value, range(65), where)

    def test_classes(self):
        allowed = {"__init__", "__eq__", "__len__"}
        for name, _, tree in package_files():
            for kind in [node for node in tree.body if isinstance(node, ast.ClassDef)]:
                methods = [node.name for node in kind.body if isinstance(node, ast.FunctionDef)]
                self.assertEqual(len(methods), len(set(methods)), (name, kind.name))
                self.assertFalse(kind.decorator_list)
                for node in kind.body:
                    self.assertTrue(isinstance(node, ast.FunctionDef) or isinstance(getattr(node, "value", None), ast.Constant), (name, kind.name))
                    if isinstance(node, ast.FunctionDef):
                        self.assertFalse(node.decorator_list)
                        self.assertTrue(node.name in allowed or not node.name.startswith("__"), node.name)
                        self.assertNotIn(node.name.strip("_"), self.barred_methods(), (name, node.name))
                assigned = {node.attr for node in ast.walk(kind) if isinstance(node, ast.Attribute) and isinstance(node.ctx, ast.Store)}
                self.assertFalse(assigned & set(methods), (name, kind.name))
                for word in assigned:
                    self.assertNotIn(word, self.barred_attributes(), name)
                    self.assertRegex(word, r"^_?[a-z][a-z0-9_]*$")

    def barred_methods(self):
        """Names that no method has: of strings, numbers and so on, but for those that the rules leave free."""
        own = {name for kind in (str, int, list, dict, set, bytes, tuple) for name in dir(kind) if not name.startswith("_")}
        return own - {"add", "discard", "append", "copy", "clear", "count", "index", "insert", "pop", "remove", "reverse", "update"}

    def barred_attributes(self):
        """Names that no attribute has."""
        own = {name for kind in (str, int, list, dict, set, bytes, tuple) for name in dir(kind)}
        return (own | {"args", "format", "mro", "open", "input", "law", "elements", "register"}) - {
            "count", "index", "title", "find", "get", "join", "lower", "upper", "split", "strip", "copy", "add"}

    def test_attributes_that_are_read_are_assigned_or_methods(self):
        own = {name for kind in (str, int, list, dict, tuple) for name in dir(kind) if not name.startswith("_")} | {"__init__"}
        known = set(own)
        for _, _, tree in package_files():
            known |= {node.attr for node in ast.walk(tree) if isinstance(node, ast.Attribute) and isinstance(node.ctx, ast.Store)}
            known |= {node.name for kind in tree.body if isinstance(kind, ast.ClassDef) for node in kind.body if isinstance(node, ast.FunctionDef)}
        for name, _, tree in package_files():
            for node in ast.walk(tree):
                if isinstance(node, ast.Attribute):
                    self.assertIn(node.attr, known, (name, node.lineno))

    def test_the_underscore_is_never_read_and_stands_once_in_a_target(self):
        for name, _, tree in package_files():
            for node in ast.walk(tree):
                if isinstance(node, ast.Name) and node.id == "_":
                    self.assertIsInstance(node.ctx, ast.Store, (name, node.lineno))
                if isinstance(node, ast.Tuple) and isinstance(node.ctx, ast.Store):
                    words = [part.id for part in node.elts if isinstance(part, ast.Name)]
                    self.assertEqual(len(words), len(set(words)), (name, node.lineno))

    def test_what_is_tried_is_caught_by_own_errors_and_finally_only_assigns(self):
        own = {node.name for name, _, tree in package_files() if name == "errors.py" for node in tree.body if isinstance(node, ast.ClassDef)}
        for name, _, tree in package_files():
            for node in ast.walk(tree):
                if isinstance(node, ast.ExceptHandler):
                    self.assertIn(node.type.id, own, name)
                if isinstance(node, ast.Try):
                    for row in node.finalbody:
                        self.assertIsInstance(row, ast.Assign, name)
                        for part in ast.walk(row):
                            self.assertNotIsInstance(part, (ast.Call, ast.Subscript, ast.BinOp, ast.Compare), name)
                if isinstance(node, ast.Raise) and node.exc is not None:
                    self.assertIn(node.exc.func.id, own | {"TypeError"}, name)

    def test_sets_stand_only_where_they_may(self):
        for name, _, tree in package_files():
            around = {id(child): node for node in ast.walk(tree) for child in ast.iter_child_nodes(node)}
            for node in ast.walk(tree):
                self.assertNotIsInstance(node, (ast.Set, ast.SetComp, ast.GeneratorExp, ast.Yield, ast.Global, ast.Nonlocal, ast.Match), name)
                if isinstance(node, ast.Call) and isinstance(node.func, ast.Name) and node.func.id == "set":
                    outer = around[id(node)]
                    self.assertIsInstance(outer, ast.Call, (name, node.lineno))
                    self.assertIn(outer.func.id, ("sorted", "len"), (name, node.lineno))
                if isinstance(node, ast.Call):
                    # A star stands before a name, an attribute off a name, or a literal tuple alone.
                    for part in node.args:
                        if isinstance(part, ast.Starred):
                            self.assertIsInstance(part.value, (ast.Name, ast.Attribute), (name, node.lineno))
