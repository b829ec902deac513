"""Holds the package's own files to the part of Python that they keep to."""

import ast
import builtins
import pathlib
import re
import unittest

PACKAGE = pathlib.Path(__file__).resolve().parent.parent / "raisedsums"
FILES = sorted(PACKAGE.glob("*.py"))

ALLOWED = set("""len range enumerate zip min max sum abs sorted reversed int str bool list tuple dict set frozenset
isinstance ord repr any all divmod Exception ValueError TypeError KeyError IndexError LookupError
ZeroDivisionError ArithmeticError OverflowError RuntimeError NotImplementedError AttributeError StopIteration""".split())
METHODS = set("""append clear copy count endswith extend find get index insert isalnum isalpha isdigit islower isspace
isupper items join keys ljust lower lstrip partition pop remove replace reverse rfind rjust rpartition rsplit rstrip
setdefault split splitlines startswith strip update upper values zfill bit_length""".split())
BANNED_WORDS = """type typing typing_extensions enum Enum IntEnum StrEnum Flag IntFlag Generic Protocol ABC ABCMeta
namedtuple NamedTuple TypedDict TYPE_CHECKING abstractmethod""".split()
BANNED_PARTS = ["dataclass", "overload", "contextmanager"]
NODES = (
    ast.Module, ast.ImportFrom, ast.alias, ast.FunctionDef, ast.arguments, ast.arg, ast.ClassDef, ast.Assign,
    ast.AugAssign, ast.If, ast.While, ast.For, ast.Return, ast.Break, ast.Continue, ast.Pass, ast.Raise, ast.Try,
    ast.ExceptHandler, ast.Expr, ast.Constant, ast.Name, ast.List, ast.Tuple, ast.Dict, ast.BinOp, ast.UnaryOp,
    ast.BoolOp, ast.Compare, ast.IfExp, ast.Call, ast.keyword, ast.Attribute, ast.Subscript, ast.Slice, ast.ListComp,
    ast.comprehension, ast.JoinedStr, ast.FormattedValue, ast.Lambda, ast.expr_context, ast.boolop, ast.operator,
    ast.unaryop, ast.cmpop,
)


class Language(unittest.TestCase):
    def each(self):
        for path in FILES:
            text = path.read_text(encoding="utf-8")
            yield path, text, ast.parse(text)

    def test_only_plain_files(self):
        for path in PACKAGE.iterdir():
            if path.name != "__pycache__":
                self.assertRegex(path.name, r"^[a-z0-9_]+\.py$")
        self.assertIn(PACKAGE / "__init__.py", FILES)

    def test_signs_and_sizes(self):
        for path, text, tree in self.each():
            self.assertTrue(all(sign == "\n" or " " <= sign <= "~" for sign in text), path)
            lines = text.split("\n")
            self.assertLessEqual(len(lines), 400, path)
            self.assertLessEqual(max(map(len, lines)), 120, path)
            for node in ast.walk(tree):
                if isinstance(node, ast.FunctionDef):
                    self.assertLessEqual(node.end_lineno - node.lineno + 1, 40, (path, node.name))

    def test_words_that_stand_nowhere(self):
        for path, text, _ in self.each():
            words = set(re.findall(r"\w+", text))
            self.assertFalse(words & set(BANNED_WORDS), path)
            for part in BANNED_PARTS:
                self.assertNotIn(part, text, path)

    def test_kinds_of_rows_and_expressions(self):
        for path, _, tree in self.each():
            for node in ast.walk(tree):
                where = (path, getattr(node, "lineno", 0), ast.dump(node)[:80])
                self.assertIsInstance(node, NODES, where)
                self.check_node(node, where)

    def check_node(self, node, where):
        if isinstance(node, ast.ListComp):
            self.assertEqual(len(node.generators), 1, where)
            self.assertLessEqual(len(node.generators[0].ifs), 1, where)
        elif isinstance(node, ast.Assign):
            self.assertEqual(len(node.targets), 1, where)
            self.assertNotIsInstance(node.targets[0], (ast.Tuple, ast.List), where)
        elif isinstance(node, (ast.For, ast.While)):
            self.assertFalse(node.orelse, where)
        elif isinstance(node, ast.Compare):
            for op, right in zip(node.ops, node.comparators):
                if isinstance(op, (ast.Is, ast.IsNot)):
                    self.assertIn(getattr(right, "value", 0), (None, True, False), where)
        elif isinstance(node, ast.FunctionDef):
            self.check_function(node, where)
        elif isinstance(node, ast.BinOp):
            self.assertNotIsInstance(node.op, (ast.Div, ast.MatMult, ast.Pow), where)
        elif isinstance(node, ast.FormattedValue):
            self.assertIsInstance(node.value, ast.Name, where)
            self.assertIsNone(node.format_spec, where)
        elif isinstance(node, ast.Constant):
            self.assertIsInstance(node.value, (int, str, type(None)), where)
            if isinstance(node.value, str):
                self.assertNotIn("%", node.value, where)

    def check_function(self, node, where):
        given = node.args
        self.assertFalse(node.decorator_list or given.vararg or given.kwarg or given.kwonlyargs
                         or given.posonlyargs, where)
        if node.name.startswith("_"):
            self.assertIn(node.name, ("__init__", "__eq__", "__repr__", "__str__", "__len__"), where)

    def test_top_of_each_file(self):
        for path, _, tree in self.each():
            self.assertIsNotNone(ast.get_docstring(tree), path)
            for node in tree.body[1:]:
                self.assertIsInstance(node, (ast.ImportFrom, ast.FunctionDef, ast.ClassDef, ast.Assign), path)
            for node in ast.walk(tree):
                if isinstance(node, ast.ImportFrom):
                    self.assertEqual(node.level, 0, path)
                    self.assertIn(node, tree.body, path)
                    self.assertRegex(node.module, r"^raisedsums\.[a-z_]+$")

    def test_names_at_the_top_have_plain_values(self):
        for path, _, tree in self.each():
            for node in tree.body:
                if isinstance(node, ast.Assign):
                    value = ast.literal_eval(node.value)
                    within = list(value.values()) if isinstance(value, dict) else value
                    if isinstance(within, (list, tuple)):
                        self.assertFalse([each for each in within if isinstance(each, (list, dict))], path)

    def test_names_come_from_where_they_are_defined(self):
        tops = {path.stem: self.bound_at_top(tree) for path, _, tree in self.each()}
        for path, _, tree in self.each():
            for node in tree.body:
                if isinstance(node, ast.ImportFrom):
                    for alias in node.names:
                        self.assertIsNone(alias.asname, path)
                        self.assertIn(alias.name, tops[node.module.split(".")[1]], path)

    def bound_at_top(self, tree):
        told = [node.name for node in tree.body if isinstance(node, (ast.FunctionDef, ast.ClassDef))]
        told += [node.targets[0].id for node in tree.body if isinstance(node, ast.Assign)]
        self.assertEqual(len(told), len(set(told)))
        return told

    def test_no_two_files_draw_from_one_another(self):
        draws = {}
        for path, _, tree in self.each():
            draws[path.stem] = [node.module.split(".")[1] for node in tree.body if isinstance(node, ast.ImportFrom)]
        left = dict(draws)
        while left:
            free = [name for name in left if not any(other in left for other in left[name])]
            self.assertTrue(free, left)
            for name in free:
                left.pop(name)

    def test_names(self):
        for path, _, tree in self.each():
            tops = set(self.bound_at_top(tree))
            drawn = {a.name for n in tree.body if isinstance(n, ast.ImportFrom) for a in n.names}
            bound = {n.id for n in ast.walk(tree) if isinstance(n, ast.Name) and isinstance(n.ctx, ast.Store)}
            bound |= {n.arg for n in ast.walk(tree) if isinstance(n, ast.arg)}
            self.assertFalse(bound & set(dir(builtins)), path)
            self.assertFalse(bound & drawn, path)
            self.assertFalse(tops & drawn, path)
            defined = {n.name for n in tree.body if isinstance(n, (ast.FunctionDef, ast.ClassDef))}
            self.assertFalse(bound & defined, path)
            self.assertFalse([name for name in bound | tops if name.startswith("_")], path)
            for node in ast.walk(tree):
                if isinstance(node, ast.Name) and isinstance(node.ctx, ast.Load):
                    self.assertIn(node.id, ALLOWED | tops | drawn | bound, path)

    def test_methods(self):
        for path, _, tree in self.each():
            own = {n.name for n in ast.walk(tree) if isinstance(n, ast.FunctionDef)}
            for node in ast.walk(tree):
                if isinstance(node, ast.Call) and isinstance(node.func, ast.Attribute):
                    self.assertIn(node.func.attr, METHODS | own, (path, node.lineno))

    def test_every_name_drawn_is_used(self):
        for path, _, tree in self.each():
            used = {n.id for n in ast.walk(tree) if isinstance(n, ast.Name)}
            for node in tree.body:
                if isinstance(node, ast.ImportFrom):
                    for alias in node.names:
                        self.assertIn(alias.name, used, path)


if __name__ == "__main__":
    unittest.main()
