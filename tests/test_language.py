"""The package's own files keep to the part of Python that the project is written in."""

import ast
import pathlib
import re
import unittest

PACKAGE = pathlib.Path(__file__).resolve().parent.parent / "shortruns"

PYTHONS_OWN = set("""len range enumerate zip min max sum abs sorted reversed int str bool list tuple dict set frozenset
isinstance ord repr any all divmod Exception ValueError TypeError KeyError IndexError LookupError ZeroDivisionError
ArithmeticError OverflowError RuntimeError NotImplementedError AttributeError StopIteration""".split())
METHODS = set("""append clear copy count endswith extend find get index insert isalnum isalpha isdigit islower isspace
isupper items join keys ljust lower lstrip partition pop remove replace reverse rfind rjust rpartition rsplit rstrip
setdefault split splitlines startswith strip update upper values zfill bit_length""".split())
WORDS_NOWHERE = set("""type typing typing_extensions enum Enum IntEnum StrEnum Flag IntFlag Generic Protocol ABC ABCMeta
namedtuple NamedTuple TypedDict TYPE_CHECKING abstractmethod""".split())
NAMES_NOWHERE = set("register mro elements open input version_info with_traceback add_note format format_map".split())
NODES = (
    ast.Module, ast.ImportFrom, ast.alias, ast.FunctionDef, ast.ClassDef, ast.arguments, ast.arg, ast.Assign,
    ast.AugAssign, ast.If, ast.While, ast.For, ast.Return, ast.Break, ast.Continue, ast.Expr, ast.Call, ast.Name,
    ast.Attribute, ast.Subscript, ast.Slice, ast.Constant, ast.List, ast.Tuple, ast.Dict, ast.ListComp,
    ast.comprehension, ast.BinOp, ast.UnaryOp, ast.BoolOp, ast.Compare, ast.IfExp, ast.expr_context, ast.operator,
    ast.unaryop, ast.boolop, ast.cmpop,
)


def files():
    return sorted(PACKAGE.glob("*.py"))


def trees():
    return [(path.name, ast.parse(path.read_text())) for path in files()]


def nodes(kinds):
    return [(name, node) for name, tree in trees() for node in ast.walk(tree) if isinstance(node, kinds)]


def stored_names():
    for name, node in nodes((ast.Name, ast.arg, ast.FunctionDef, ast.ClassDef)):
        if isinstance(node, ast.Name):
            if isinstance(node.ctx, ast.Store):
                yield name, node.id, node.lineno
        elif isinstance(node, ast.arg):
            yield name, node.arg, node.lineno
        else:
            yield name, node.name, node.lineno


class TestLanguage(unittest.TestCase):
    def test_files(self):
        lying = [path for path in PACKAGE.iterdir() if path.name != "__pycache__"]
        self.assertEqual(sorted(lying), files())
        for path in files():
            self.assertRegex(path.name, r"^[a-z_][a-z0-9_]*\.py$")
        self.assertIn(PACKAGE / "__init__.py", files())

    def test_sizes_and_signs(self):
        for path in files():
            text = path.read_text()
            self.assertIsNone(re.search(r"[^ -~\n]", text), path.name)
            lines = text.splitlines()
            self.assertLessEqual(len(lines), 400, path.name)
            self.assertLessEqual(max(len(line) for line in lines), 120, path.name)
            self.assertEqual(WORDS_NOWHERE & set(re.findall(r"\w+", text)), set(), path.name)
        for name, node in nodes(ast.FunctionDef):
            self.assertLessEqual(node.end_lineno - node.lineno + 1, 40, (name, node.name))

    def test_statements_and_expressions(self):
        for name, node in nodes(ast.AST):
            self.assertIsInstance(node, NODES, (name, getattr(node, "lineno", None)))
            self.assertNotIsInstance(node, (ast.Div, ast.MatMult, ast.Pow), name)
            if isinstance(node, ast.Assign):
                self.assertEqual(len(node.targets), 1, (name, node.lineno))
                self.assertNotIsInstance(node.targets[0], ast.Tuple, (name, node.lineno))
            if isinstance(node, (ast.For, ast.While)):
                self.assertEqual(node.orelse, [], (name, node.lineno))
            if isinstance(node, ast.ListComp):
                self.assertEqual(len(node.generators), 1, (name, node.lineno))
            if isinstance(node, ast.Constant):
                self.assertIn(type(node.value), (int, str, bool, type(None)), (name, node.lineno))
            if isinstance(node, ast.FunctionDef):
                given = node.args
                self.assertFalse(given.vararg or given.kwarg or given.kwonlyargs or given.posonlyargs, name)
                self.assertFalse(node.decorator_list or node.returns, (name, node.lineno))
            if isinstance(node, ast.ClassDef):
                self.assertTrue(all(isinstance(inner, ast.FunctionDef) for inner in node.body), name)
            if isinstance(node, ast.Compare):
                for sign, right in zip(node.ops, node.comparators):
                    if isinstance(sign, (ast.Is, ast.IsNot)):
                        self.assertIsInstance(right, ast.Constant, (name, node.lineno))

    def test_texts_stand_alone_at_the_top_only(self):
        for name, tree in trees():
            self.assertIsNotNone(ast.get_docstring(tree), name)
            for node in ast.walk(tree):
                if isinstance(node, ast.Expr) and node != tree.body[0]:
                    self.assertIsInstance(node.value, ast.Call, (name, node.lineno))

    def test_top_of_a_module(self):
        for name, tree in trees():
            bound = []
            for node in tree.body[1:]:
                self.assertIsInstance(node, (ast.ImportFrom, ast.Assign, ast.FunctionDef, ast.ClassDef), name)
                if isinstance(node, ast.Assign):
                    ast.literal_eval(node.value)
                    bound.append(node.targets[0].id)
                elif isinstance(node, ast.ImportFrom):
                    bound += [each.name for each in node.names]
                else:
                    bound.append(node.name)
            self.assertEqual(len(bound), len(set(bound)), name)

    def test_imports(self):
        drawn = {}
        tops = {name: {getattr(node, "name", None) for node in tree.body}
                | {node.targets[0].id for node in tree.body if isinstance(node, ast.Assign)} for name, tree in trees()}
        for name, node in nodes(ast.ImportFrom):
            self.assertRegex(node.module, r"^shortruns\.\w+$")
            source = node.module.split(".")[1] + ".py"
            for each in node.names:
                self.assertIn(each.name, tops[source], (name, node.lineno))
                self.assertIsNone(each.asname)
            drawn.setdefault(name, set()).add(source)
        while drawn:
            free = [name for name in drawn if not drawn[name] & set(drawn)]
            self.assertTrue(free, "files draw from one another")
            drawn = {name: drawn[name] for name in drawn if name not in free}

    def test_names(self):
        python = set(dir(__builtins__) if not isinstance(__builtins__, dict) else __builtins__)
        for name, bound, line in stored_names():
            self.assertNotIn(bound, python | NAMES_NOWHERE, (name, line))
            self.assertRegex(bound, r"^(__init__|[A-Za-z]\w*)$", (name, line))
        for name, tree in trees():
            own = {bound for where, bound, line in stored_names() if where == name}
            own |= {each.name for node in tree.body if isinstance(node, ast.ImportFrom) for each in node.names}
            for node in ast.walk(tree):
                if isinstance(node, ast.Name):
                    self.assertIn(node.id, own | PYTHONS_OWN, (name, node.lineno))

    def test_locals_are_not_called_like_imports_or_classes(self):
        for name, tree in trees():
            taken = {each.name for node in tree.body if isinstance(node, ast.ImportFrom) for each in node.names}
            taken |= {node.name for node in tree.body if isinstance(node, ast.ClassDef)}
            for node in ast.walk(tree):
                bound = node.arg if isinstance(node, ast.arg) else None
                if isinstance(node, ast.Name) and isinstance(node.ctx, ast.Store):
                    bound = node.id
                self.assertNotIn(bound, taken, (name, getattr(node, "lineno", None)))

    def test_methods_and_values(self):
        methods = {inner.name for name, node in nodes(ast.ClassDef) for inner in node.body}
        values = {node.attr for name, node in nodes(ast.Attribute) if isinstance(node.ctx, ast.Store)}
        self.assertEqual(methods & values, set())
        python = {each for kind in (str, int, list, dict, set, bytes, tuple) for each in dir(kind)}
        self.assertEqual((methods - {"__init__"} | values) & (python | NAMES_NOWHERE), set())
        for name, node in nodes(ast.Attribute):
            self.assertIn(node.attr, methods | values | METHODS, (name, node.lineno))


if __name__ == "__main__":
    unittest.main()
