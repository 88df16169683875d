"""The package's files keep to the part of Python that the program is written in, as far as a test can see it."""

import ast
import os
import re
import unittest

PACKAGE = os.path.join(os.path.dirname(os.path.dirname(os.path.abspath(__file__))), "waterloops")

ALLOWED_NODES = (
    ast.Module, ast.Expr, ast.Constant, ast.ImportFrom, ast.alias, ast.FunctionDef, ast.ClassDef, ast.arguments,
    ast.arg, ast.Assign, ast.AugAssign, ast.If, ast.While, ast.For, ast.Return, ast.Break, ast.Continue, ast.Pass,
    ast.Raise, ast.Try, ast.ExceptHandler, ast.Call, ast.Name, ast.Attribute, ast.Subscript, ast.Slice, ast.List,
    ast.Tuple, ast.Dict, ast.ListComp, ast.comprehension, ast.IfExp, ast.BoolOp, ast.BinOp, ast.UnaryOp, ast.Compare,
    ast.Lambda, ast.keyword, ast.expr_context, ast.boolop, ast.unaryop, ast.cmpop, ast.Add, ast.Sub, ast.Mult,
    ast.FloorDiv, ast.Mod)
ALLOWED_BUILTINS = set(
    "len range enumerate zip min max sum abs sorted reversed int str bool list tuple dict isinstance ord repr any all "
    "divmod Exception ValueError KeyError ZeroDivisionError StopIteration".split())
ALLOWED_METHODS = set(
    "append clear copy count endswith extend find get index insert isalnum isalpha isdigit islower isspace isupper "
    "items join keys ljust lower lstrip partition pop remove replace reverse rfind rjust rpartition rsplit rstrip "
    "setdefault split splitlines startswith strip update upper values zfill bit_length".split())
BANNED_WORDS = re.compile(
    r"\b(type|typing|typing_extensions|enum|Enum|IntEnum|StrEnum|Flag|IntFlag|Generic|Protocol|ABC|ABCMeta|namedtuple"
    r"|NamedTuple|TypedDict|TYPE_CHECKING|abstractmethod)\b|dataclass|overload|contextmanager")
BANNED_NAMES = set("register mro elements open input version_info with_traceback add_note format format_map".split())
VALUES_OF_PYTHON = set(dir(str) + dir(int) + dir(list) + dir(dict) + dir(set) + dir(bytes))


def sources():
    found = {}
    for name in sorted(os.listdir(PACKAGE)):
        if name != "__pycache__":
            with open(os.path.join(PACKAGE, name), encoding="utf-8", newline="") as file:
                found[name] = file.read()
    return found


class Language(unittest.TestCase):
    def setUp(self):
        self.sources = sources()
        self.trees = {name: ast.parse(source) for name, source in self.sources.items()}

    def each_node(self):
        for name, tree in self.trees.items():
            for node in ast.walk(tree):
                yield node, f"{name}:{getattr(node, 'lineno', 0)}"

    def test_files(self):
        self.assertIn("__init__.py", self.sources)
        self.assertIn("network.py", self.sources)
        for name in self.sources:
            self.assertRegex(name, r"^(__init__|[a-z][a-z0-9_]*)\.py$")

    def test_signs_and_sizes(self):
        for name, source in self.sources.items():
            self.assertTrue(all(sign == "\n" or " " <= sign <= "~" for sign in source), name)
            lines = source.split("\n")
            self.assertTrue(len(lines) <= 400, name)
            self.assertTrue(all(len(line) <= 120 for line in lines), name)
            self.assertIsNone(BANNED_WORDS.search(source), name)
        for node, place in self.each_node():
            if isinstance(node, ast.FunctionDef):
                self.assertTrue(node.end_lineno - node.lineno < 40, place)

    def test_statements_and_expressions(self):
        for node, place in self.each_node():
            self.assertIsInstance(node, ALLOWED_NODES, place)
            if isinstance(node, ast.Constant):
                self.assertIn(type(node.value), (int, str, bool, type(None)), place)
                self.assertNotIn("%", str(node.value), place)
            if isinstance(node, ast.Assign):
                self.assertEqual(len(node.targets), 1, place)
                self.assertNotIsInstance(node.targets[0], (ast.Tuple, ast.List), place)
            if isinstance(node, (ast.For, ast.While, ast.Try)):
                self.assertFalse(getattr(node, "finalbody", []), place)
            if isinstance(node, (ast.For, ast.While)):
                self.assertFalse(node.orelse, place)
            if isinstance(node, ast.ListComp):
                self.assertEqual(len(node.generators), 1, place)
                self.assertTrue(len(node.generators[0].ifs) <= 1, place)
            if isinstance(node, ast.Compare) and any(isinstance(op, (ast.Is, ast.IsNot)) for op in node.ops):
                self.assertIsInstance(node.comparators[0], ast.Constant, place)

    def test_functions_and_classes(self):
        for node, place in self.each_node():
            if isinstance(node, (ast.FunctionDef, ast.ClassDef)):
                self.assertFalse(node.decorator_list, place)
            if isinstance(node, ast.FunctionDef):
                taken = node.args
                self.assertFalse(taken.vararg or taken.kwarg or taken.kwonlyargs or taken.posonlyargs, place)
                self.assertIsNone(node.returns, place)
            if isinstance(node, ast.ClassDef):
                self.assertTrue(all(isinstance(part, (ast.FunctionDef, ast.Expr)) for part in node.body), place)

    def test_imports(self):
        drawn = {}
        for name, tree in self.trees.items():
            drawn[name[:-3]] = []
            for node in tree.body:
                if isinstance(node, ast.ImportFrom):
                    self.assertEqual(node.level, 0)
                    self.assertTrue(node.module.startswith("waterloops."), name)
                    drawn[name[:-3]].append(node.module.partition(".")[2])
                    at_top = self.names_at_top(self.trees[drawn[name[:-3]][-1] + ".py"])
                    for part in node.names:
                        self.assertIn(part.name, at_top, name)
                        self.assertIsNone(part.asname, name)
        self.assertEqual(drawn["__init__"], [])
        while drawn:
            free = [name for name, others in drawn.items() if not any(other in drawn for other in others)]
            self.assertTrue(free, f"these draw from one another: {sorted(drawn)}")
            for name in free:
                del drawn[name]

    def names_at_top(self, tree):
        found = []
        for node in tree.body:
            if isinstance(node, (ast.FunctionDef, ast.ClassDef)):
                found.append(node.name)
            if isinstance(node, ast.Assign):
                found.append(node.targets[0].id)
        return found

    def test_names(self):
        for name, tree in self.trees.items():
            at_top = self.names_at_top(tree)
            self.assertEqual(len(at_top), len(set(at_top)), name)
            classes = [node.name for node in tree.body if isinstance(node, ast.ClassDef)]
            imported = [part.name for node in tree.body if isinstance(node, ast.ImportFrom) for part in node.names]
            bound = set()
            used = set()
            for node in ast.walk(tree):
                if isinstance(node, ast.arg):
                    bound.add(node.arg)
                if isinstance(node, ast.Name):
                    (used if isinstance(node.ctx, ast.Load) else bound).add(node.id)
            self.assertFalse(bound & set(classes + imported), name)
            self.assertFalse((bound | set(at_top)) & set(dir(__builtins__) if not isinstance(__builtins__, dict)
                                                         else __builtins__), name)
            self.assertFalse((used | bound) & BANNED_NAMES, name)
            self.assertTrue(used - bound - set(at_top + imported) <= ALLOWED_BUILTINS, name)
            self.assertTrue(set(imported) <= used, name)
            for word in bound | used | set(at_top):
                self.assertRegex(word, r"^[A-Za-z][A-Za-z0-9_]*$")

    def test_attributes(self):
        for node, place in self.each_node():
            if isinstance(node, ast.Attribute):
                self.assertNotIn(node.attr, BANNED_NAMES, place)
                self.assertFalse(node.attr.startswith("_"), place)
                if node.attr in VALUES_OF_PYTHON:
                    self.assertIn(node.attr, ALLOWED_METHODS, place)

    def test_every_function_is_used(self):
        used = {"answers"}
        for node, place in self.each_node():
            if isinstance(node, ast.Name):
                used.add(node.id)
        for name, tree in self.trees.items():
            self.assertTrue(set(self.names_at_top(tree)) <= used, name)


if __name__ == "__main__":
    unittest.main()
