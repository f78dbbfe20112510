"""The form of the code: those rules of the language that can be told from the syntax."""

import ast
import builtins
import pathlib
import re
import unittest

FOLDER = pathlib.Path(__file__).resolve().parent.parent / "contrabooks"
BUILTINS = set(
    "len range enumerate zip min max sum abs sorted reversed int str bool bytes list tuple dict set frozenset "
    "isinstance ord repr any all divmod iter next super property staticmethod classmethod Exception ValueError "
    "TypeError KeyError IndexError LookupError ZeroDivisionError ArithmeticError OverflowError RuntimeError "
    "NotImplementedError AttributeError StopIteration NotImplemented".split()
)
DOUBLE = set(
    "init eq repr str len enter exit call iter lt le gt ge ne add sub mul floordiv mod pow and or xor lshift rshift "
    "radd rsub rmul rfloordiv rmod rand ror rxor rlshift rrshift iadd isub imul ifloordiv imod ipow iand ior ixor "
    "ilshift irshift neg pos invert abs bool contains getitem setitem".split()
)
WORDS = re.compile(
    r"\b(type|typing|typing_extensions|enum|Enum|IntEnum|StrEnum|Flag|IntFlag|Generic|Protocol|ABC|ABCMeta|namedtuple|"
    r"NamedTuple|TypedDict|TYPE_CHECKING|abstractmethod)\b|dataclass|overload|contextmanager"
)
BARRED = set(
    "register mro elements open input law version_info with_traceback add_note attrgetter breakpoint builtins compile "
    "copyright credits delattr dir eval exec exit gc getattr globals hasattr help id importlib license locals "
    "methodcaller os quit setattr type vars sys".split()
)
METHODS = set(
    "append clear copy count endswith extend find get index insert isalnum isalpha isdigit islower isspace isupper items "
    "join keys ljust lower lstrip partition pop remove replace reverse rfind rjust rpartition rsplit rstrip setdefault "
    "split splitlines startswith strip update upper values zfill bit_length isascii isdecimal".split()
)
STATEMENTS = (
    ast.Assign, ast.AugAssign, ast.AnnAssign, ast.If, ast.While, ast.For, ast.Return, ast.Break, ast.Continue, ast.Pass,
    ast.Raise, ast.Assert, ast.Delete, ast.Nonlocal, ast.With, ast.Try, ast.Expr, ast.FunctionDef,
)
CAUGHT = {"KeyError", "ZeroDivisionError", "StopIteration", "ValueError", "LookupError", "IndexError"}


def trees():
    """The files of the package: name, text and tree."""
    for path in sorted(FOLDER.rglob("*.py")):
        text = path.read_text(encoding="utf-8")
        yield path.name, text, ast.parse(text)


def nodes(*kinds):
    """All nodes of some kinds: file and line, and node."""
    for name, _, tree in trees():
        for node in ast.walk(tree):
            if isinstance(node, kinds):
                yield f"{name}:{getattr(node, 'lineno', 0)}", node


def bound_by(node):
    """The names that a comprehension or a lambda assigns."""
    if isinstance(node, ast.Lambda):
        return {arg.arg for arg in node.args.args}
    return {part.id for told in node.generators for part in ast.walk(told.target) if isinstance(part, ast.Name)}


class Form(unittest.TestCase):
    def test_files(self):
        for path in FOLDER.rglob("*"):
            if "__pycache__" not in path.parts:
                self.assertRegex(path.name, r"^[a-z_0-9]+\.py$")
        for name, text, _ in trees():
            lines = text.split("\n")
            self.assertLess(len(lines), 400, name)
            self.assertLessEqual(max(map(len, lines)), 120, name)
            self.assertRegex(text, r"\A[ -~\n]*\Z", name)
            self.assertIsNone(WORDS.search(text), name)

    def test_module_level(self):
        for name, _, tree in trees():
            self.assertIsInstance(tree.body[0].value, ast.Constant, name)
            for node in tree.body[1:]:
                self.assertIsInstance(node, (ast.ImportFrom, ast.FunctionDef, ast.ClassDef, ast.Assign), name)
                if isinstance(node, ast.Assign):
                    self.assertEqual(len(node.targets), 1)
                    self.assertIsInstance(node.targets[0], ast.Name)
                    self.assertIsInstance(node.value, (ast.Constant, ast.Tuple, ast.Dict, ast.List, ast.UnaryOp))

    def test_imports_stand_at_the_top_and_make_no_circle(self):
        order = {}
        for name, _, tree in trees():
            told = [node for node in ast.walk(tree) if isinstance(node, (ast.Import, ast.ImportFrom))]
            self.assertEqual(told, tree.body[1:1 + len(told)], name)
            for node in told:
                self.assertIsInstance(node, ast.ImportFrom, name)
                self.assertRegex(node.module, r"^contrabooks\.[a-z]+$")
                self.assertTrue(all(alias.name != "*" for alias in node.names))
            order[name] = [node.module.split(".")[1] + ".py" for node in told]
        while order:
            free = [name for name, needed in order.items() if not set(needed) & set(order)]
            self.assertTrue(free, order)
            for name in free:
                del order[name]

    def test_statements(self):
        for where, function in nodes(ast.FunctionDef):
            self.assertLessEqual(function.end_lineno - function.lineno + 1, 40, where)
            for node in ast.walk(function):
                if isinstance(node, ast.stmt):
                    self.assertIsInstance(node, STATEMENTS, where)
            for decorator in function.decorator_list:
                self.assertIn(ast.unparse(decorator).split(".")[-1],
                              ("property", "setter", "staticmethod", "classmethod"), where)
        for where, handler in nodes(ast.ExceptHandler):
            for node in handler.type.elts if isinstance(handler.type, ast.Tuple) else [handler.type]:
                self.assertTrue(node.id in CAUGHT or not hasattr(builtins, node.id), where)

    def test_names(self):
        for where, node in nodes(ast.Name):
            if hasattr(builtins, node.id):
                self.assertIn(node.id, BUILTINS, where)
                self.assertIsInstance(node.ctx, ast.Load, where)
            self.assertRegex(node.id, r"^[A-Za-z]", where)
            self.assertNotIn(node.id, BARRED, where)
        for where, node in nodes(ast.arg):
            self.assertFalse(hasattr(builtins, node.arg), where)
            self.assertNotIn(node.arg, BARRED, where)
        for where, node in nodes(ast.FunctionDef, ast.ClassDef):
            self.assertNotIn(node.name, BARRED, where)
            if node.name.startswith("_"):
                self.assertIn(node.name.strip("_"), DOUBLE, where)

    def test_expressions(self):
        for where, node in nodes(ast.Constant):
            self.assertNotIsInstance(node.value, (float, complex), where)
            if isinstance(node.value, str):
                self.assertNotIn("%", node.value, where)
        for where, node in nodes(ast.Div, ast.MatMult, ast.Await, ast.Global):
            self.fail(where)
        for where, node in nodes(ast.Compare):
            for sign, other in zip(node.ops, node.comparators):
                if isinstance(sign, (ast.Is, ast.IsNot)):
                    self.assertIn(ast.unparse(other), ("None", "True", "False"), where)

    def test_methods_and_attributes(self):
        methods, attributes = set(), {}
        for where, cls in nodes(ast.ClassDef):
            told = [node.name for node in cls.body if isinstance(node, ast.FunctionDef)]
            self.assertEqual(len(told), len(set(told)), where)
            if "__getitem__" in told:
                self.assertIn("__iter__", told, where)
            methods.update(name for name in told if not name.startswith("_"))
        for where, node in nodes(ast.Attribute):
            if isinstance(node.ctx, ast.Store):
                attributes[node.attr] = where
        self.assertEqual(methods & set(attributes), set())
        for where, node in nodes(ast.Attribute):
            known = node.attr in methods or node.attr in attributes or node.attr in METHODS or node.attr == "__init__"
            self.assertTrue(known, (where, node.attr))

    def test_local_names(self):
        for name, _, tree in trees():
            barred = {node.name for node in tree.body if isinstance(node, ast.ClassDef)}
            for node in tree.body:
                if isinstance(node, ast.ImportFrom):
                    barred.update(alias.name for alias in node.names)
            for node in ast.walk(tree):
                if isinstance(node, ast.arg):
                    self.assertNotIn(node.arg, barred, name)
                if isinstance(node, ast.Name) and isinstance(node.ctx, ast.Store):
                    self.assertNotIn(node.id, barred, name)

    def test_names_in_comprehensions(self):
        # Narrower than the rule: a comprehension inside another one, or inside a lambda, has names of its own.
        kinds = (ast.ListComp, ast.DictComp, ast.SetComp, ast.Lambda)
        for where, outer in nodes(*kinds):
            for inner in ast.walk(outer):
                if inner is not outer and isinstance(inner, kinds):
                    self.assertEqual(bound_by(inner) & bound_by(outer), set(), where)

    def test_what_operators_would_make_hard_to_follow(self):
        ordered = {"sorted": ("int", "len", "str", "set"), "min": ("int", "len"), "max": ("int", "len")}
        for where, node in nodes(ast.AugAssign, ast.GeneratorExp, ast.NamedExpr, ast.Global, ast.Nonlocal):
            self.fail(where)
        for where, node in nodes(ast.Call):
            if isinstance(node.func, ast.Name) and node.func.id in ordered:
                found = node.args[0].elt if isinstance(node.args[0], ast.ListComp) else node.args[0]
                self.assertIsInstance(found, ast.Call, where)
                self.assertIn(found.func.id, ordered[node.func.id], where)
            if isinstance(node.func, ast.Attribute):
                self.assertNotIn(node.func.attr, ("sort", "pop", "remove", "update", "setdefault", "clear"), where)
        for where, node in nodes(ast.Set):
            self.fail(where)
        for where, node in nodes(ast.SetComp):
            self.assertIsInstance(node.elt, (ast.Name, ast.Attribute), where)

    def test_lambdas(self):
        lines = [where for where, node in nodes(ast.Lambda)]
        self.assertEqual(len(lines), len(set(lines)))
        for where, node in nodes(ast.Lambda):
            self.assertEqual((node.args.defaults, node.args.kwonlyargs, node.args.vararg), ([], [], None), where)

    def test_properties(self):
        properties, stored = set(), set()
        for where, node in nodes(ast.FunctionDef, ast.Attribute):
            if isinstance(node, ast.FunctionDef) and any(ast.unparse(told) == "property" for told in node.decorator_list):
                properties.add(node.name)
                self.assertEqual(len(node.decorator_list), 1, where)
                for part in ast.walk(node):
                    self.assertNotIsInstance(part, (ast.Assign, ast.Delete), where)
            elif isinstance(node, ast.Attribute) and isinstance(node.ctx, ast.Store):
                stored.add(node.attr)
        self.assertEqual(properties & stored, set())

    def test_leaving_a_block_only_puts_something_back(self):
        for where, function in nodes(ast.FunctionDef):
            if function.name == "__exit__":
                self.assertEqual([arg.arg for arg in function.args.args], ["self", "kind", "value", "trace"], where)
                for node in function.body:
                    self.assertIsInstance(node, ast.Assign, where)
                    self.assertIsInstance(node.targets[0], ast.Attribute, where)
                    self.assertIsInstance(node.value, (ast.Attribute, ast.Name), where)
        for where, node in nodes(ast.With):
            for item in node.items:
                self.assertIsInstance(item.context_expr, ast.Call, where)

    def test_tables_are_only_read(self):
        for name, _, tree in trees():
            tables = {node.targets[0].id for node in tree.body if isinstance(node, ast.Assign)
                      and isinstance(node.value, (ast.Dict, ast.List))}
            reads = [part for node in ast.walk(tree) for part in (
                [node.value] if isinstance(node, ast.Subscript) and isinstance(node.ctx, ast.Load) else
                node.comparators if isinstance(node, ast.Compare) else ())]
            for node in ast.walk(tree):
                if isinstance(node, ast.Name) and node.id in tables and isinstance(node.ctx, ast.Load):
                    self.assertIn(node, reads, (name, node.id))

    def test_double_underscore_methods_change_nothing(self):
        for where, function in nodes(ast.FunctionDef):
            if function.name in ("__eq__", "__repr__", "__str__", "__len__", "__bool__"):
                self.assertIsInstance(function.body[-1], ast.Return, where)
                for node in ast.walk(function):
                    self.assertNotIsInstance(node, (ast.Assign, ast.AugAssign, ast.Delete), where)


if __name__ == "__main__":
    unittest.main()
