"""Those rules of LANGUAGE.md that the files of the package show by themselves."""

import ast
import builtins
import importlib
import re
import unittest
from pathlib import Path

PACKAGE = Path(__file__).resolve().parent.parent / "toldparts"
BUILTINS = set(
    "len range enumerate zip min max sum abs sorted reversed int str bool bytes list tuple dict set frozenset "
    "isinstance ord repr any all divmod Exception ValueError TypeError KeyError IndexError LookupError "
    "ZeroDivisionError ArithmeticError OverflowError RuntimeError NotImplementedError AttributeError "
    "StopIteration NotImplemented super property staticmethod classmethod".split()
)
BARRED_WORDS = re.compile(
    r"\b(type|typing|typing_extensions|enum|Enum|IntEnum|StrEnum|Flag|IntFlag|Generic|Protocol|ABC|ABCMeta"
    r"|namedtuple|NamedTuple|TypedDict|TYPE_CHECKING|abstractmethod)\b|dataclass|overload|contextmanager"
)
# Names of these mean something to readers of Python already.
KNOWN_MODULES = (
    "bisect collections copy fractions functools heapq itertools math operator random re statistics string".split()
)
BARRED_NODES = (ast.Global, ast.AsyncFunctionDef, ast.AsyncFor, ast.AsyncWith, ast.Await, ast.Div, ast.Import)


def package_files():
    return sorted(PACKAGE.rglob("*.py"))


class Language(unittest.TestCase):
    def each_node(self):
        for file in package_files():
            for node in ast.walk(ast.parse(file.read_text())):
                yield f"{file}:{getattr(node, 'lineno', 0)}", node

    def test_files_and_folders(self):
        self.assertTrue(package_files())
        for path in PACKAGE.rglob("*"):
            if "__pycache__" in path.parts:
                continue
            if path.is_dir():
                self.assertTrue((path / "__init__.py").is_file(), path)
                self.assertFalse(path.with_suffix(".py").exists(), path)
            else:
                self.assertEqual(path.suffix, ".py", path)
            self.assertRegex(path.stem, r"\A([a-z][a-z0-9_]*|__init__|__main__)\Z")

    def test_sizes_and_characters(self):
        for file in package_files():
            text = file.read_bytes().decode("ascii")
            self.assertRegex(text, r"\A[ -~\n]*\Z", file)
            self.assertLessEqual(len(text.splitlines()), 400, file)
            for line in text.splitlines():
                self.assertLessEqual(len(line), 120, file)

    def test_sizes_of_functions(self):
        for where, node in self.each_node():
            if isinstance(node, ast.FunctionDef):
                self.assertLessEqual(node.end_lineno - node.lineno + 1, 40, where)

    def test_barred_words(self):
        for file in package_files():
            self.assertIsNone(BARRED_WORDS.search(file.read_text()), file)

    def test_imports_from_the_package_alone(self):
        for where, node in self.each_node():
            if isinstance(node, ast.ImportFrom):
                self.assertEqual(node.level, 0, where)
                self.assertRegex(node.module, r"\Atoldparts\.|\A__future__\Z", where)

    def test_barred_statements_and_values(self):
        for where, node in self.each_node():
            self.assertNotIsInstance(node, BARRED_NODES, where)
            if isinstance(node, ast.Constant):
                self.assertNotIsInstance(node.value, (float, complex), where)
                if isinstance(node.value, str):
                    self.assertNotIn("%", node.value, where)

    def test_names(self):
        known = set(dir(builtins))
        for where, node in self.each_node():
            if isinstance(node, ast.Name):
                self.assertFalse(node.id.startswith("_"), where)
                self.assertFalse(node.id in known - BUILTINS, (where, node.id))
                if isinstance(node.ctx, ast.Store):
                    self.assertNotIn(node.id, known, where)
            if isinstance(node, ast.arg):
                self.assertNotIn(node.arg, known, where)

    def test_names_at_module_level_mean_nothing_else(self):
        known = {name for module in KNOWN_MODULES for name in dir(importlib.import_module(module))}
        for file in package_files():
            for node in ast.parse(file.read_text()).body:
                names = [getattr(node, "name", None)]
                names += [target.id for target in getattr(node, "targets", [])]
                self.assertFalse(known & set(names), (file, names))


if __name__ == "__main__":
    unittest.main()
