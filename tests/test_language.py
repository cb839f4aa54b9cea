"""Those rules of LANGUAGE.md that the files of the package show by themselves."""

import ast
import builtins
import importlib
import re
import unittest
from pathlib import Path

PACKAGE = Path(__file__).resolve().parent.parent / "toldparts"
BUILTINS = set(
    "len range enumerate zip min max sum abs sorted reversed int str bool bytes list tuple dict set frozenset "
    "isinstance ord repr any all divmod Exception ValueError TypeError KeyError IndexError LookupError "
    "ZeroDivisionError ArithmeticError OverflowError RuntimeError NotImplementedError AttributeError "
    "StopIteration NotImplemented super property staticmethod classmethod".split()
)
BARRED_WORDS = re.compile(
    r"\b(type|typing|typing_extensions|enum|Enum|IntEnum|StrEnum|Flag|IntFlag|Generic|Protocol|ABC|ABCMeta"
    r"|namedtuple|NamedTuple|TypedDict|TYPE_CHECKING|abstractmethod)\b|dataclass|overload|contextmanager"
)
# Names of these mean something to readers of Python already.
KNOWN_MODULES = (
    "bisect collections copy fractions functools heapq itertools math operator random re statistics string".split()
)
BARRED_NODES = (ast.Global, ast.AsyncFunctionDef, ast.AsyncFor, ast.AsyncWith, ast.Await, ast.Div, ast.Import)


def package_files():
    return sorted(PACKAGE.rglob("*.py"))


def module_of(file):
    """The full name of a file's module."""
    return ".".join(file.relative_to(PACKAGE.parent).with_suffix("").parts).removesuffix(".__init__")


def bound_at_module_level(tree):
    """The names that a module binds, those of its imports apart from its own."""
    imported, own = [], []
    for node in tree.body:
        if isinstance(node, ast.ImportFrom):
            imported += [name.asname or name.name for name in node.names]
        elif isinstance(node, (ast.FunctionDef, ast.ClassDef)):
            own.append(node.name)
        elif isinstance(node, ast.Assign):
            own += [target.id for target in node.targets]
    return imported, own


class Language(unittest.TestCase):
    def each_node(self):
        for file in package_files():
            for node in ast.walk(ast.parse(file.read_text())):
                yield f"{file}:{getattr(node, 'lineno', 0)}", node

    def test_files_and_folders(self):
        self.assertTrue(package_files())
        for path in PACKAGE.rglob("*"):
            if "__pycache__" in path.parts:
                continue
            if path.is_dir():
                self.assertTrue((path / "__init__.py").is_file(), path)
                self.assertFalse(path.with_suffix(".py").exists(), path)
            else:
                self.assertEqual(path.suffix, ".py", path)
            self.assertRegex(path.stem, r"\A([a-z][a-z0-9_]*|__init__|__main__)\Z")

    def test_sizes_and_characters(self):
        for file in package_files():
            text = file.read_bytes().decode("ascii")
            self.assertRegex(text, r"\A[ -~\n]*\Z", file)
            self.assertLessEqual(len(text.splitlines()), 400, file)
            for line in text.splitlines():
                self.assertLessEqual(len(line), 120, file)

    def test_sizes_of_functions(self):
        for where, node in self.each_node():
            if isinstance(node, ast.FunctionDef):
                self.assertLessEqual(node.end_lineno - node.lineno + 1, 40, where)

    def test_barred_words(self):
        for file in package_files():
            self.assertIsNone(BARRED_WORDS.search(file.read_text()), file)

    def test_imports_from_the_package_alone(self):
        for where, node in self.each_node():
            if isinstance(node, ast.ImportFrom):
                self.assertEqual(node.level, 0, where)
                self.assertRegex(node.module, r"\Atoldparts\.|\A__future__\Z", where)

    def test_barred_statements_and_values(self):
        for where, node in self.each_node():
            self.assertNotIsInstance(node, BARRED_NODES, where)
            if isinstance(node, ast.Constant):
                self.assertNotIsInstance(node.value, (float, complex), where)
                if isinstance(node.value, str):
                    self.assertNotIn("%", node.value, where)

    def test_names(self):
        known = set(dir(builtins))
        for where, node in self.each_node():
            if isinstance(node, ast.Name):
                self.assertFalse(node.id.startswith("_"), where)
                self.assertFalse(node.id in known - BUILTINS, (where, node.id))
                if isinstance(node.ctx, ast.Store):
                    self.assertNotIn(node.id, known, where)
            if isinstance(node, ast.arg):
                self.assertNotIn(node.arg, known, where)

    def test_names_at_module_level_mean_nothing_else(self):
        known = {name for module in KNOWN_MODULES for name in dir(importlib.import_module(module))}
        for file in package_files():
            for node in ast.parse(file.read_text()).body:
                names = [getattr(node, "name", None)]
                names += [target.id for target in getattr(node, "targets", [])]
                self.assertFalse(known & set(names), (file, names))

    def test_names_are_bound_once_at_module_level(self):
        for file in package_files():
            imported, own = bound_at_module_level(ast.parse(file.read_text()))
            self.assertEqual(len(imported + own), len(set(imported + own)), file)

    def test_imports_name_the_file_that_defines(self):
        trees = {module_of(file): ast.parse(file.read_text()) for file in package_files()}
        for module, tree in trees.items():
            for node in ast.walk(tree):
                if isinstance(node, ast.ImportFrom):
                    own = bound_at_module_level(trees[node.module])[1]
                    for name in node.names:
                        self.assertIn(name.name, own, module)

    def test_no_two_files_import_from_each_other(self):
        waiting = {}
        for file in package_files():
            nodes = ast.walk(ast.parse(file.read_text()))
            waiting[module_of(file)] = {node.module for node in nodes if isinstance(node, ast.ImportFrom)}
        while waiting:
            free = [module for module in waiting if not waiting[module] & set(waiting)]
            self.assertTrue(free, waiting)
            for module in free:
                del waiting[module]

    def test_no_variable_has_the_name_of_a_class_or_an_import(self):
        for file in package_files():
            tree = ast.parse(file.read_text())
            taken = set(bound_at_module_level(tree)[0])
            taken |= {node.name for node in tree.body if isinstance(node, ast.ClassDef)}
            for node in ast.walk(tree):
                if isinstance(node, ast.Name) and isinstance(node.ctx, ast.Store):
                    self.assertNotIn(node.id, taken, file)
                if isinstance(node, ast.arg):
                    self.assertNotIn(node.arg, taken, file)

    def test_exponents_are_written_out(self):
        for where, node in self.each_node():
            if isinstance(node, ast.BinOp) and isinstance(node.op, ast.Pow):
                self.assertIsInstance(node.right, ast.Constant, where)
                self.assertIn(node.right.value, range(65), where)

    def test_no_name_is_a_method_and_an_attribute(self):
        methods, attributes = set(), set()
        for where, node in self.each_node():
            if isinstance(node, ast.ClassDef):
                methods |= {inner.name for inner in node.body if isinstance(inner, ast.FunctionDef)}
            if isinstance(node, ast.Attribute) and isinstance(node.ctx, ast.Store):
                attributes.add(node.attr)
        self.assertFalse(methods & attributes)


if __name__ == "__main__":
    unittest.main()
