"""The form of the package's files, as far as LANGUAGE.md's rules can be seen in a file (their numbers stand beside)."""

import ast
import builtins
import os
import re
import unittest

FOLDER = os.path.join(os.path.dirname(os.path.dirname(os.path.abspath(__file__))), "healfloor")
OWN_NAMES = set("""len range enumerate zip min max sum abs sorted reversed int str bool list tuple dict set frozenset
    isinstance ord repr any all divmod Exception ValueError TypeError KeyError IndexError LookupError
    ZeroDivisionError ArithmeticError OverflowError RuntimeError NotImplementedError AttributeError
    StopIteration""".split())
METHODS = set("""append clear copy count endswith extend find get index insert isalnum isalpha isdigit islower isspace
    isupper items join keys ljust lower lstrip partition pop remove replace reverse rfind rjust rpartition rsplit
    rstrip setdefault split splitlines startswith strip update upper values zfill bit_length""".split())
TWO_UNDERSCORES = {"__init__", "__eq__", "__repr__", "__str__", "__len__"}
NOWHERE = re.compile(r"\b(type|typing|typing_extensions|enum|Enum|IntEnum|StrEnum|Flag|IntFlag|Generic|Protocol|ABC|"
                     r"ABCMeta|namedtuple|NamedTuple|TypedDict|TYPE_CHECKING|abstractmethod)\b|"
                     r"dataclass|overload|contextmanager")
NO_NAMES = set("""register mro elements open input version_info with_traceback add_note format format_map attrgetter
    breakpoint builtins compile copyright credits delattr dir eval exec exit gc getattr globals hasattr help id
    importlib license locals methodcaller os quit setattr super type vars sys chr print""".split())
STATEMENTS = (ast.Assign, ast.AugAssign, ast.If, ast.While, ast.For, ast.Return, ast.Break, ast.Continue, ast.Pass,
              ast.Raise, ast.Try, ast.Expr, ast.FunctionDef, ast.ClassDef, ast.ImportFrom)
EXPRESSIONS = (ast.Constant, ast.List, ast.Tuple, ast.Dict, ast.Set, ast.BinOp, ast.UnaryOp, ast.Compare, ast.BoolOp,
               ast.IfExp, ast.Call, ast.Attribute, ast.Subscript, ast.Slice, ast.ListComp, ast.JoinedStr,
               ast.FormattedValue, ast.Name, ast.Lambda)
WALKED = {"zip", "enumerate", "reversed", "range"}
WALKED_METHODS = {"items", "keys", "values"}
WALKERS = {"list", "tuple", "dict", "sorted", "sum", "any", "all", "enumerate", "zip", "min", "max"}


def files():
    return sorted([name for name in os.listdir(FOLDER) if name != "__pycache__"])


def text_of(name):
    with open(os.path.join(FOLDER, name), encoding="utf-8") as file:
        return file.read()


def trees():
    return [(name, ast.parse(text_of(name))) for name in files()]


def nodes():
    """Each node of each file, with the file's name and the node around it."""
    for name, tree in trees():
        for parent in ast.walk(tree):
            for node in ast.iter_child_nodes(parent):
                yield name, parent, node


def called_name(node):
    return node.func.id if isinstance(node, ast.Call) and isinstance(node.func, ast.Name) else None


def bound_at_top(tree):
    names = []
    for node in tree.body:
        if isinstance(node, (ast.FunctionDef, ast.ClassDef)):
            names.append(node.name)
        elif isinstance(node, ast.ImportFrom):
            names.extend([alias.asname or alias.name for alias in node.names])
        elif isinstance(node, ast.Assign):
            names.append(node.targets[0].id)
    return names


def is_plain_value(node):
    if isinstance(node, ast.UnaryOp):
        return isinstance(node.operand, ast.Constant)
    if isinstance(node, (ast.Tuple, ast.List)):
        return all(is_plain_value(part) for part in node.elts)
    if isinstance(node, ast.Dict):
        return all(is_plain_value(part) for part in node.keys + node.values)
    return isinstance(node, (ast.Constant, ast.Name))


class Files(unittest.TestCase):
    def test_names(self):  # L1, L14
        self.assertIn("__init__.py", files())
        for name in files():
            self.assertTrue(name == "__init__.py" or re.fullmatch(r"[a-z][a-z0-9_]*\.py", name), name)
            self.assertFalse(name[:-3] in dir(builtins) or name.startswith("test"), name)

    def test_signs_and_sizes(self):  # L10, L14
        for name in files():
            text = text_of(name)
            self.assertTrue(all(sign == "\n" or " " <= sign <= "~" for sign in text), name)
            self.assertLessEqual(text.count("\n"), 400, name)
            self.assertLessEqual(max(len(row) for row in text.split("\n")), 120, name)
        for name, parent, node in nodes():
            if isinstance(node, ast.FunctionDef):
                self.assertLessEqual(node.end_lineno - node.lineno + 1, 40, (name, node.name))

    def test_words_that_stand_nowhere(self):  # L17
        for name in files():
            self.assertIsNone(NOWHERE.search(text_of(name)), name)


class Imports(unittest.TestCase):
    def test_from_the_file_that_defines(self):  # L2, L16
        own = {name[:-3]: tree for name, tree in trees()}
        for name, tree in trees():
            for node in ast.walk(tree):
                self.assertNotIsInstance(node, ast.Import, name)
                if isinstance(node, ast.ImportFrom):
                    self.assertIn(node, tree.body, name)
                    package, dot, module = node.module.partition(".")
                    self.assertEqual((node.level, package, dot), (0, "healfloor", "."), name)
                    defined = [part.name for part in own[module].body if hasattr(part, "name")]
                    defined += [part.targets[0].id for part in own[module].body if isinstance(part, ast.Assign)]
                    for alias in node.names:
                        self.assertIn(alias.name, defined, name)

    def test_no_two_draw_from_one_another(self):  # L16
        drawn = {}
        for name, tree in trees():
            drawn[name[:-3]] = [node.module.partition(".")[2] for node in tree.body if isinstance(node, ast.ImportFrom)]
        done = []
        while len(done) < len(drawn):
            ready = [name for name in drawn if name not in done and set(drawn[name]) <= set(done)]
            self.assertTrue(ready, "files draw from one another")
            done.extend(ready)


class Tops(unittest.TestCase):
    def test_what_stands_at_the_top(self):  # L3, L15
        for name, tree in trees():
            self.assertIsNotNone(ast.get_docstring(tree), name)
            for node in tree.body[1:]:
                self.assertIsInstance(node, (ast.ImportFrom, ast.FunctionDef, ast.ClassDef, ast.Assign), name)
                if isinstance(node, ast.Assign):
                    self.assertTrue(is_plain_value(node.value), (name, node.lineno))
            bound = bound_at_top(tree)
            self.assertEqual(sorted(bound), sorted(set(bound)), name)

    def test_classes(self):  # L5, L18
        methods, values = set(), set()
        for name, tree in trees():
            for node in ast.walk(tree):
                if isinstance(node, ast.ClassDef):
                    self.assertIn(node, tree.body, name)
                    self.assertLessEqual(len(node.bases), 1, node.name)
                    self.assertFalse(node.decorator_list or node.keywords, node.name)
                    defs = [part for part in node.body if isinstance(part, ast.FunctionDef)]
                    rest = [part for part in node.body if part not in defs]
                    self.assertTrue(all(isinstance(part, ast.Expr) for part in rest[:1]) and not rest[1:], node.name)
                    methods.update([part.name for part in defs])
                elif isinstance(node, ast.Attribute) and isinstance(node.ctx, ast.Store):
                    values.add(node.attr)
        self.assertFalse(methods & values)


class Insides(unittest.TestCase):
    def test_statements_and_expressions(self):  # L6, L7
        for name, parent, node in nodes():
            where = (name, getattr(node, "lineno", 0))
            if isinstance(node, ast.stmt):
                self.assertIsInstance(node, STATEMENTS, where)
            if isinstance(node, ast.expr):
                self.assertIsInstance(node, EXPRESSIONS, where)
            if isinstance(node, ast.Assign):
                self.assertEqual(len(node.targets), 1, where)
                self.assertIsInstance(node.targets[0], (ast.Name, ast.Attribute, ast.Subscript), where)
            if isinstance(node, (ast.For, ast.While)):
                self.assertFalse(node.orelse, where)
            if isinstance(node, ast.Expr) and not isinstance(node.value, ast.Constant):
                self.assertIsInstance(node.value, ast.Call, where)
            if isinstance(node, ast.ListComp):
                self.assertEqual(len(node.generators), 1, where)
                self.assertLessEqual(len(node.generators[0].ifs), 1, where)
            self.assertNotIsInstance(node, (ast.Div, ast.MatMult), where)

    def test_values(self):  # L7, L20, L27
        for name, parent, node in nodes():
            where = (name, getattr(node, "lineno", 0))
            if isinstance(node, ast.Constant):
                self.assertIsInstance(node.value, (int, str, bool, type(None)), where)
                self.assertFalse(isinstance(node.value, str) and "%" in node.value, where)
            if isinstance(node, ast.FormattedValue):
                self.assertIsInstance(node.value, ast.Name, where)
            if isinstance(node, ast.Compare):
                for sort, right in zip(node.ops, node.comparators):
                    if isinstance(sort, (ast.Is, ast.IsNot)):
                        self.assertTrue(isinstance(right, ast.Constant) and right.value in (None, True, False), where)
            if isinstance(node, ast.BinOp) and isinstance(node.op, ast.Pow):
                self.assertIsInstance(node.right, ast.Constant, where)

    def test_functions(self):  # L4, L21, L28
        for name, parent, node in nodes():
            if isinstance(node, ast.FunctionDef):
                args = node.args
                self.assertFalse(args.vararg or args.kwarg or args.kwonlyargs or args.posonlyargs, (name, node.name))
                self.assertFalse(node.decorator_list or node.returns, (name, node.name))
                self.assertFalse([arg for arg in args.args if arg.annotation], (name, node.name))
                self.assertTrue(all(is_plain_value(part) for part in args.defaults), (name, node.name))

    def test_names(self):  # L8, L12, L15, L17
        for name, tree in trees():
            top = bound_at_top(tree)
            taken = [node.name for node in tree.body if isinstance(node, ast.ClassDef)]
            taken += [alias.name for node in tree.body if isinstance(node, ast.ImportFrom) for alias in node.names]
            locals_here = {arg.arg for node in ast.walk(tree) if isinstance(node, ast.arguments) for arg in node.args}
            for part in tree.body:
                if not isinstance(part, ast.Assign):
                    locals_here |= {node.id for node in ast.walk(part)
                                    if isinstance(node, ast.Name) and isinstance(node.ctx, ast.Store)}
            for word in locals_here:
                self.assertFalse(word in dir(builtins) or word in taken or word.startswith("_"), (name, word))
            for node in ast.walk(tree):
                if isinstance(node, ast.Name):
                    known = node.id in top or node.id in locals_here or node.id in OWN_NAMES
                    self.assertTrue(known and node.id not in NO_NAMES, (name, node.lineno, node.id))
                if isinstance(node, (ast.FunctionDef, ast.ClassDef)):
                    self.assertTrue(node.name in TWO_UNDERSCORES or not node.name.startswith("_"), (name, node.name))
                    self.assertNotIn(node.name, NO_NAMES | set(dir(builtins)), name)

    def test_methods(self):  # L17, L25, L26
        own = {part.name for name, tree in trees() for node in tree.body if isinstance(node, ast.ClassDef)
               for part in node.body if isinstance(part, ast.FunctionDef)}
        for name, parent, node in nodes():
            if isinstance(node, ast.Attribute):
                self.assertNotIn(node.attr, NO_NAMES, (name, node.lineno))
                if isinstance(parent, ast.Call) and parent.func is node:
                    self.assertIn(node.attr, METHODS | own, (name, node.lineno))

    def test_errors(self):  # L19
        for name, parent, node in nodes():
            if isinstance(node, ast.Raise):
                self.assertIsInstance(node.exc, ast.Call, (name, node.lineno))
            if isinstance(node, ast.ExceptHandler):
                self.assertIsInstance(node.type, ast.Name, (name, node.lineno))
                self.assertNotIn(node.type.id, ("Exception", "TypeError"), (name, node.lineno))
            if isinstance(node, ast.Try):
                self.assertFalse(node.finalbody, (name, node.lineno))

    def test_walked_at_once(self):  # L23, L24
        for name, parent, node in nodes():
            where = (name, getattr(node, "lineno", 0))
            method = node.func.attr if isinstance(node, ast.Call) and isinstance(node.func, ast.Attribute) else None
            if called_name(node) in WALKED or method in WALKED_METHODS:
                walked = isinstance(parent, (ast.For, ast.comprehension)) and parent.iter is node
                walked = walked or (called_name(parent) in WALKERS and parent.args[0] is node)
                walked = walked or (called_name(parent) == "zip" and node in parent.args)
                joined = isinstance(parent, ast.Call) and isinstance(parent.func, ast.Attribute)
                self.assertTrue(walked or (joined and parent.func.attr == "join"), where)
            if called_name(node) in ("set", "frozenset") or isinstance(node, ast.Set):
                beside = isinstance(parent, (ast.Compare, ast.BinOp)) or called_name(parent) in ("sorted", "len")
                self.assertTrue(beside, where)


if __name__ == "__main__":
    unittest.main()
