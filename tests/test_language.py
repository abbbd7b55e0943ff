"""Some of the rules of LANGUAGE.md, as far as a look at the package's files shows them."""

import ast
import builtins
import keyword
import re
import unittest
from pathlib import Path

PACKAGE = Path(__file__).resolve().parent.parent / "anywait"
FILES = sorted(path for path in PACKAGE.rglob("*") if path.is_file() and "__pycache__" not in path.parts)

NODES = (
    ast.Module, ast.ImportFrom, ast.alias, ast.FunctionDef, ast.arguments, ast.arg, ast.ClassDef, ast.Lambda,
    ast.keyword,
    ast.Assign, ast.AugAssign, ast.If, ast.While, ast.For, ast.Return, ast.Break, ast.Continue, ast.Pass, ast.Raise,
    ast.Try, ast.ExceptHandler, ast.Expr, ast.Call, ast.Name, ast.Attribute, ast.Subscript, ast.Slice, ast.Constant,
    ast.List, ast.Tuple, ast.Dict, ast.Set, ast.BinOp, ast.UnaryOp, ast.BoolOp, ast.Compare, ast.IfExp, ast.ListComp,
    ast.comprehension, ast.JoinedStr, ast.FormattedValue, ast.expr_context, ast.operator, ast.unaryop, ast.boolop,
    ast.cmpop,
)
OWN_NAMES = (
    "len range enumerate zip min max sum abs sorted reversed int str bool list tuple dict set frozenset isinstance ord "
    "repr any all divmod Exception ValueError TypeError KeyError IndexError LookupError ZeroDivisionError "
    "ArithmeticError OverflowError RuntimeError NotImplementedError AttributeError StopIteration"
).split()
METHODS = (
    "append clear copy count endswith extend find get index insert isalnum isalpha isdigit islower isspace isupper "
    "items join keys ljust lower lstrip partition pop remove replace reverse rfind rjust rpartition rsplit rstrip "
    "setdefault split splitlines startswith strip update upper values zfill bit_length"
).split()
WORDS = (
    "type typing typing_extensions enum Enum IntEnum StrEnum Flag IntFlag Generic Protocol ABC ABCMeta namedtuple "
    "NamedTuple TypedDict TYPE_CHECKING abstractmethod"
).split()
WITHIN_WORDS = ("dataclass", "overload", "contextmanager")
UNUSED = (
    "register mro elements open input version_info with_traceback add_note attrgetter breakpoint builtins compile "
    "copyright credits delattr dir eval exec exit gc getattr globals hasattr help id importlib license locals "
    "methodcaller os quit setattr super type vars sys"
).split()


def trees():
    return [(path, ast.parse(path.read_text(encoding="utf-8"))) for path in FILES]


def nodes(*kinds):
    return [(path, node) for path, tree in trees() for node in ast.walk(tree) if isinstance(node, kinds)]


def bound_names(tree):
    """Each name that a file binds, at its top or within."""
    found = []
    for node in ast.walk(tree):
        if isinstance(node, ast.Name) and isinstance(node.ctx, ast.Store):
            found.append(node.id)
        elif isinstance(node, (ast.FunctionDef, ast.ClassDef)):
            found.append(node.name)
        elif isinstance(node, ast.arg):
            found.append(node.arg)
        elif isinstance(node, ast.alias):
            found.append(node.asname or node.name)
    return found


class Language(unittest.TestCase):
    def test_files(self):
        self.assertIn(PACKAGE / "__init__.py", FILES)
        for path in FILES:
            self.assertRegex(path.name, r"\A(__init__|[a-z][a-z0-9_]*)\.py\Z")
            self.assertFalse(path.name != "__init__.py" and hasattr(builtins, path.stem), path)
            self.assertFalse(keyword.iskeyword(path.stem), path)

    def test_signs_and_sizes(self):
        for path in FILES:
            text = path.read_text(encoding="utf-8")
            self.assertRegex(text, r"\A[\n -~]*\Z", path)
            self.assertLessEqual(len(text.splitlines()), 400, path)
            self.assertLessEqual(max(len(line) for line in text.splitlines()), 120, path)
        for path, node in nodes(ast.FunctionDef):
            self.assertLessEqual(node.end_lineno - node.lineno + 1, 40, (path, node.name))

    def test_words_that_stand_nowhere(self):
        for path in FILES:
            text = path.read_text(encoding="utf-8")
            self.assertEqual(sorted(set(re.findall(r"\w+", text)) & set(WORDS)), [], path)
            self.assertEqual([word for word in WITHIN_WORDS if word in text], [], path)

    def test_forms(self):
        for path, tree in trees():
            for node in ast.walk(tree):
                self.assertIsInstance(node, NODES, (path, getattr(node, "lineno", 0)))
        for path, node in nodes(ast.Constant):
            self.assertIsInstance(node.value, (int, str, type(None)), (path, node.lineno))
        for path, node in nodes(ast.Assign):
            self.assertEqual(len(node.targets), 1, (path, node.lineno))
        for path, node in nodes(ast.For, ast.While):
            self.assertEqual(node.orelse, [], (path, node.lineno))
        for path, node in nodes(ast.Div, ast.MatMult, ast.Starred):
            self.fail((path, node))

    def test_a_text_by_itself_opens_a_file_and_else_calls_stand_by_themselves(self):
        for path, tree in trees():
            self.assertIsNotNone(ast.get_docstring(tree), path)
            for node in ast.walk(tree):
                if isinstance(node, ast.Expr) and node is not tree.body[0]:
                    self.assertIsInstance(node.value, ast.Call, (path, node.lineno))

    def test_the_top_of_a_file(self):
        for path, tree in trees():
            for node in tree.body[1:]:
                self.assertIsInstance(node, (ast.ImportFrom, ast.FunctionDef, ast.ClassDef, ast.Assign), path)
            names = [node.name for node in tree.body if isinstance(node, (ast.FunctionDef, ast.ClassDef))]
            names += [node.targets[0].id for node in tree.body if isinstance(node, ast.Assign)]
            names += [alias.name for node in tree.body if isinstance(node, ast.ImportFrom) for alias in node.names]
            self.assertEqual(len(names), len(set(names)), path)

    def test_functions_and_classes(self):
        for path, node in nodes(ast.FunctionDef):
            arguments = node.args
            self.assertEqual((arguments.vararg, arguments.kwarg, arguments.kwonlyargs), (None, None, []), path)
            self.assertEqual((node.decorator_list, arguments.posonlyargs), ([], []), path)
        for path, node in nodes(ast.ClassDef):
            self.assertLessEqual(len(node.bases), 1, path)
            self.assertEqual((node.keywords, node.decorator_list), ([], []), path)
            for part in node.body:
                self.assertIsInstance(part, (ast.FunctionDef, ast.Pass), (path, node.name))

    def test_imports(self):
        drawn = {path.stem: set() for path in FILES}
        for path, node in nodes(ast.ImportFrom):
            self.assertEqual(node.level, 0, path)
            package, dot, stem = node.module.partition(".")
            self.assertEqual(package, "anywait", path)
            tree = ast.parse((PACKAGE / f"{stem}.py").read_text(encoding="utf-8"))
            for alias in node.names:
                defined = [part for part in tree.body if not isinstance(part, ast.ImportFrom)]
                self.assertIn(alias.name, bound_names(ast.Module(defined, [])), path)
            drawn[path.stem] |= {stem, "__init__"}
        while drawn:
            free = [stem for stem in drawn if not drawn[stem] & set(drawn)]
            self.assertNotEqual(free, [], "files draw from one another")
            drawn = {stem: behind for stem, behind in drawn.items() if stem not in free}

    def test_each_import_is_used(self):
        for path, tree in trees():
            used = [node.id for node in ast.walk(tree) if isinstance(node, ast.Name)]
            for node in tree.body:
                for alias in node.names if isinstance(node, ast.ImportFrom) else ():
                    self.assertIn(alias.name, used, path)

    def test_names(self):
        for path, tree in trees():
            for name in bound_names(tree):
                if name not in ("__init__", "__eq__", "__repr__", "__str__", "__len__"):
                    self.assertRegex(name, r"\A[A-Za-z][A-Za-z0-9_]*\Z", path)
                self.assertNotIn(name, vars(builtins), path)
                self.assertNotIn(name, UNUSED, path)

    def test_pythons_own_names_and_methods(self):
        for path, tree in trees():
            bound = bound_names(tree)
            own_methods = [node.name for found, node in nodes(ast.FunctionDef)]
            for node in ast.walk(tree):
                if isinstance(node, ast.Name):
                    self.assertTrue(node.id in bound or node.id in OWN_NAMES, (path, node.id))
                if isinstance(node, ast.Call) and isinstance(node.func, ast.Attribute):
                    self.assertIn(node.func.attr, METHODS + own_methods, path)

    def test_no_local_is_called_like_an_import_or_a_class(self):
        for path, tree in trees():
            taken = [alias.name for node in tree.body if isinstance(node, ast.ImportFrom) for alias in node.names]
            taken += [node.name for node in tree.body if isinstance(node, ast.ClassDef)]
            for node in ast.walk(tree):
                if isinstance(node, ast.FunctionDef):
                    self.assertEqual(sorted(set(bound_names(node)) & set(taken)), [], (path, node.name))

    def test_the_methods_and_values_of_objects(self):
        of_python = {name for value in ("", 0, [], (), {}, set(), b"") for name in dir(value)}
        methods = [part.name for path, node in nodes(ast.ClassDef) for part in node.body if hasattr(part, "name")]
        stored = [node for path, node in nodes(ast.Attribute) if isinstance(node.ctx, ast.Store)]
        values = [node.attr for node in stored]
        self.assertEqual(sorted(set(methods) & set(values)), [])
        self.assertEqual(sorted((set(methods) - {"__init__"} | set(values)) & (of_python | set(UNUSED))), [])
        for node in stored:
            self.assertIsInstance(node.value, ast.Name, node.attr)
        for path, node in nodes(ast.FunctionDef):
            if node.name == "__init__":
                self.assertEqual([part for part in ast.walk(node) if isinstance(part, ast.Return)], [], path)

    def test_is_stands_beside_none_true_and_false(self):
        for path, node in nodes(ast.Compare):
            if any(isinstance(sign, (ast.Is, ast.IsNot)) for sign in node.ops):
                sides = [node.left, *node.comparators]
                self.assertTrue(any(isinstance(side, ast.Constant) for side in sides), (path, node.lineno))

    def test_comprehensions_have_one_for_and_at_most_one_if(self):
        for path, node in nodes(ast.ListComp):
            self.assertEqual(len(node.generators), 1, (path, node.lineno))
            self.assertLessEqual(len(node.generators[0].ifs), 1, (path, node.lineno))

    def test_errors_are_named(self):
        for path, node in nodes(ast.ExceptHandler):
            self.assertIsInstance(node.type, (ast.Name, ast.Tuple), (path, node.lineno))
        for path, node in nodes(ast.Try):
            self.assertEqual(node.finalbody, [], (path, node.lineno))
        for path, node in nodes(ast.Raise):
            self.assertIsInstance(node.exc, ast.Call, (path, node.lineno))


if __name__ == "__main__":
    unittest.main()
