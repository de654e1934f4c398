"""Holds the package against a part of ../shared/LANGUAGE.md: names, imports, sizes, signs, syntax and classes."""

import ast
import builtins
import pathlib
import re
import unittest

TOP = pathlib.Path(__file__).resolve().parent.parent
PACKAGE = TOP / "thinwood"
FILES = sorted(path for path in PACKAGE.rglob("*") if path.is_file() and "__pycache__" not in path.parts)

# L5 to L7: the kinds of syntax that are left.
NODES = (
    ast.Module, ast.ImportFrom, ast.alias, ast.FunctionDef, ast.arguments, ast.arg, ast.Lambda, ast.ClassDef,
    ast.Assign, ast.AugAssign, ast.If, ast.While, ast.For, ast.Return, ast.Break, ast.Continue, ast.Pass, ast.Raise,
    ast.Try, ast.ExceptHandler, ast.Expr, ast.Constant, ast.List, ast.Tuple, ast.Dict, ast.Set, ast.BinOp,
    ast.UnaryOp, ast.BoolOp, ast.Compare, ast.IfExp, ast.Call, ast.keyword, ast.Attribute, ast.Subscript, ast.Slice,
    ast.ListComp, ast.comprehension, ast.JoinedStr, ast.FormattedValue, ast.Name, ast.expr_context, ast.operator,
    ast.unaryop, ast.boolop, ast.cmpop,
)

# L8, without what L27 takes out.
OWN_NAMES = set(
    "len range enumerate zip min max sum abs sorted reversed int str bool list tuple dict set frozenset isinstance"
    " ord repr any all divmod Exception ValueError TypeError KeyError IndexError LookupError ZeroDivisionError"
    " ArithmeticError OverflowError RuntimeError NotImplementedError AttributeError StopIteration".split()
)

# L17.
NO_WORDS = re.compile(
    r"\b(type|typing|typing_extensions|enum|Enum|IntEnum|StrEnum|Flag|IntFlag|Generic|Protocol|ABC|ABCMeta"
    r"|namedtuple|NamedTuple|TypedDict|TYPE_CHECKING|abstractmethod)\b|dataclass|overload|contextmanager"
)
NO_NAMES = set(
    "register mro elements open input version_info with_traceback add_note attrgetter breakpoint builtins compile"
    " copyright credits delattr dir eval exec exit gc getattr globals hasattr help id importlib license locals"
    " methodcaller os quit setattr super type vars sys format format_map".split()
)

# L25: of Python's own values; own methods join them.
METHODS = set(
    "append clear copy count endswith extend find get index insert isalnum isalpha isdigit islower isspace isupper"
    " items join keys ljust lower lstrip partition pop remove replace reverse rfind rjust rpartition rsplit rstrip"
    " setdefault split splitlines startswith strip update upper values zfill bit_length".split()
)
TWO_UNDERSCORES = set("__init__ __eq__ __repr__ __str__ __len__".split())

# L26: which of the names of Python's own values an own method, or a value of an object, may bear.
PYTHONS = {name for kind in (str, int, list, tuple, dict, set, frozenset, bytes) for name in dir(kind)}
FREE_METHODS = METHODS | {"add", "discard"} | TWO_UNDERSCORES
FREE_VALUES = set("count index title find get join lower upper split strip copy add".split())


def bound_names(tree):
    names = []
    for node in ast.walk(tree):
        if isinstance(node, (ast.FunctionDef, ast.ClassDef)):
            names.append(node.name)
        elif isinstance(node, ast.arg):
            names.append(node.arg)
        elif isinstance(node, ast.Name) and isinstance(node.ctx, ast.Store):
            names.append(node.id)
        elif isinstance(node, ast.ExceptHandler) and node.name is not None:
            names.append(node.name)
    return names


def top_names(tree):
    names = []
    for node in tree.body:
        if isinstance(node, (ast.FunctionDef, ast.ClassDef)):
            names.append(node.name)
        elif isinstance(node, ast.Assign):
            names.append(node.targets[0].id)
        elif isinstance(node, ast.ImportFrom):
            names.extend(alias.name for alias in node.names)
    return names


def module_path(name):
    return TOP.joinpath(*name.split(".")).with_suffix(".py")


class Language(unittest.TestCase):
    def setUp(self):
        self.trees = {path: ast.parse(path.read_text(encoding="utf-8")) for path in FILES}

    def each(self, *kinds):
        for path, tree in self.trees.items():
            for node in ast.walk(tree):
                if isinstance(node, kinds):
                    yield f"{path.name}:{getattr(node, 'lineno', 0)}", node

    def test_files_and_signs(self):
        self.assertIn(PACKAGE / "__init__.py", FILES)
        for path in FILES:
            self.assertRegex(path.name, r"^([a-z][a-z0-9_]*|__init__|__main__)\.py$")
            self.assertNotRegex(path.stem, r"^(tests?|testing|test_.*|site|conftest|sitecustomize|usercustomize)$")
            self.assertNotIn(path.stem, dir(builtins))
            text = path.read_text(encoding="utf-8")
            self.assertRegex(text, r"\A[ -~\n]*\Z", path.name)
            self.assertNotRegex(text, NO_WORDS, path.name)
            rows = text.split("\n")
            self.assertLessEqual(len(rows), 401, path.name)
            self.assertLessEqual(max(len(row) for row in rows), 120, path.name)

    def test_imports(self):
        for path, tree in self.trees.items():
            imports = [node for node in ast.walk(tree) if isinstance(node, ast.ImportFrom)]
            for node in imports:
                self.assertIn(node, tree.body, path.name)
                self.assertEqual(0, node.level)
                self.assertTrue(node.module.startswith("thinwood."), path.name)
                source = self.trees[module_path(node.module)]
                defined = [name for name in top_names(source)]
                for part in source.body:
                    if isinstance(part, ast.ImportFrom):
                        defined = [name for name in defined if name not in [alias.name for alias in part.names]]
                for alias in node.names:
                    self.assertIn(alias.name, defined, path.name)
                    self.assertIsNone(alias.asname, path.name)

    def test_no_two_files_draw_from_one_another(self):
        draws = {}
        for path, tree in self.trees.items():
            draws[path] = {module_path(node.module) for node in tree.body if isinstance(node, ast.ImportFrom)}
        for path in draws:
            reached = set()
            waiting = list(draws[path])
            while waiting:
                other = waiting.pop()
                if other not in reached:
                    reached.add(other)
                    waiting.extend(draws[other])
            self.assertNotIn(path, reached)

    def test_kinds_of_syntax(self):
        for where, node in self.each(ast.AST):
            self.assertIsInstance(node, NODES, where)
        for where, node in self.each(ast.Assign):
            self.assertEqual(1, len(node.targets), where)
            self.assertNotIsInstance(node.targets[0], (ast.Tuple, ast.List), where)
        for where, node in self.each(ast.For, ast.While):
            self.assertEqual([], node.orelse, where)
        for where, node in self.each(ast.Try):
            self.assertEqual([], node.finalbody, where)
        for where, node in self.each(ast.ListComp):
            self.assertEqual(1, len(node.generators), where)
            self.assertLessEqual(len(node.generators[0].ifs), 1, where)
        for where, node in self.each(ast.Constant):
            self.assertIsInstance(node.value, (int, str, bool, type(None)), where)
        for where, node in self.each(ast.operator):
            self.assertNotIsInstance(node, (ast.Div, ast.MatMult), where)
        for where, node in self.each(ast.BinOp):
            if isinstance(node.op, ast.Pow):
                self.assertIsInstance(node.right, ast.Constant, where)
                self.assertIn(node.right.value, range(65), where)
        for where, node in self.each(ast.Compare):
            if any(isinstance(op, (ast.Is, ast.IsNot)) for op in node.ops):
                self.assertTrue(any(getattr(side, "value", 0) in (None, True, False)
                                    for side in node.comparators if isinstance(side, ast.Constant)), where)

    def test_functions_and_classes(self):
        for where, node in self.each(ast.FunctionDef):
            self.assertEqual([], node.decorator_list, where)
            self.assertLessEqual(node.end_lineno - node.lineno + 1, 40, where)
            rest = node.args
            self.assertEqual((None, None, [], []), (rest.vararg, rest.kwarg, rest.kwonlyargs, rest.posonlyargs), where)
        for where, node in self.each(ast.ClassDef):
            self.assertEqual([], node.decorator_list, where)
            self.assertLessEqual(len(node.bases), 1, where)
            for part in node.body:
                self.assertIsInstance(part, (ast.FunctionDef, ast.Pass), where)

    def methods_of(self, node):
        return [part.name for part in node.body if isinstance(part, ast.FunctionDef)]

    def test_methods_and_values_of_objects(self):
        methods = set()
        for where, node in self.each(ast.ClassDef):
            names = self.methods_of(node)
            self.assertEqual(len(names), len(set(names)), where)
            methods.update(names)
        for name in methods:
            self.assertTrue(name not in PYTHONS or name in FREE_METHODS, name)
        for where, node in self.each(ast.Attribute):
            if isinstance(node.ctx, ast.Store):
                self.assertNotIn(node.attr, methods, where)
                self.assertTrue(node.attr not in PYTHONS or node.attr in FREE_VALUES, where)
                self.assertIsInstance(node.value, ast.Name, where)

    def test_where_classes_stand(self):
        classes = {node.name for where, node in self.each(ast.ClassDef)} | {"ValueError"}
        allowed = set()
        for where, node in self.each(ast.ClassDef):
            allowed.update(node.bases)
        for where, node in self.each(ast.Call):
            allowed.add(node.func)
            if isinstance(node.func, ast.Name) and node.func.id == "isinstance":
                allowed.update(ast.walk(node.args[1]))
            if isinstance(node.func, ast.Attribute) and node.func.attr == "__init__":
                allowed.add(node.func.value)
        for where, node in self.each(ast.ExceptHandler):
            allowed.update(ast.walk(node.type))
        for where, node in self.each(ast.Name):
            if node.id in classes:
                self.assertIn(node, allowed, where)

    def test_remarks_of_defs_are_no_texts(self):
        # L6 lists a call as the one thing that stands by itself; a module's docstring is L3's.
        for path, tree in self.trees.items():
            for node in ast.walk(tree):
                if isinstance(node, ast.Expr) and node is not tree.body[0]:
                    self.assertIsInstance(node.value, ast.Call, f"{path.name}:{node.lineno}")

    def test_names(self):
        for path, tree in self.trees.items():
            tops = top_names(tree)
            self.assertEqual(len(tops), len(set(tops)), path.name)
            known = set(bound_names(tree)) | set(tops)
            for name in known - TWO_UNDERSCORES:
                self.assertRegex(name, r"^[A-Za-z][A-Za-z0-9_]*$", path.name)
                self.assertNotIn(name, NO_NAMES, path.name)
            for node in ast.walk(tree):
                if isinstance(node, ast.Name) and isinstance(node.ctx, ast.Load):
                    self.assertIn(node.id, known | OWN_NAMES, path.name)
            imported = [name for node in tree.body if isinstance(node, ast.ImportFrom)
                        for name in [alias.name for alias in node.names]]
            for node in ast.walk(tree):
                for name in bound_names(node) if isinstance(node, ast.FunctionDef) else []:
                    self.assertNotIn(name, imported, path.name)
            for node in ast.walk(tree):
                if isinstance(node, ast.arg):
                    self.assertNotIn(node.arg, dir(builtins), path.name)
                if isinstance(node, ast.Name) and isinstance(node.ctx, ast.Store):
                    self.assertNotIn(node.id, dir(builtins), path.name)

    def test_methods(self):
        own = {node.name for where, node in self.each(ast.FunctionDef)}
        for where, node in self.each(ast.Call):
            if isinstance(node.func, ast.Attribute):
                self.assertIn(node.func.attr, METHODS | own | {"__init__"}, where)
                self.assertNotIn(node.func.attr, NO_NAMES, where)


if __name__ == "__main__":
    unittest.main()
