"""Some rules of LANGUAGE.md that can be read off the files of the package."""

import ast
import pathlib
import re
import unittest

PACKAGE = pathlib.Path(__file__).resolve().parent.parent / "heapmeld"
FILES = sorted(PACKAGE.glob("*.py"))
BUILTINS = set("""len range enumerate zip min max sum abs sorted reversed int str bool bytes list tuple dict set
isinstance ord repr any all divmod ValueError object""".split())
BARRED = re.compile(r"\b(type|typing|typing_extensions|enum|Enum|IntEnum|StrEnum|Flag|IntFlag|Generic|Protocol|ABC"
                    r"|ABCMeta|namedtuple|NamedTuple|TypedDict|TYPE_CHECKING|abstractmethod)\b"
                    r"|dataclass|overload|contextmanager")
NOT_ALLOWED = (ast.Global, ast.AsyncFunctionDef, ast.Await, ast.Div, ast.Import)


def nodes(kind):
    for file in FILES:
        for node in ast.walk(ast.parse(file.read_text())):
            if isinstance(node, kind):
                yield file.name, node


class Language(unittest.TestCase):
    def test_the_folder_holds_only_files_of_the_language(self):
        names = [path.name for path in PACKAGE.iterdir() if path.name != "__pycache__"]
        self.assertEqual(sorted(names), [file.name for file in FILES])
        for name in names:
            self.assertRegex(name, r"\A[a-z0-9_]+\.py\Z")

    def test_sizes_and_characters(self):
        for file in FILES:
            lines = file.read_text().split("\n")
            self.assertLessEqual(len(lines), 400, file.name)
            for line in lines:
                self.assertRegex(line, r"\A[ -~]{0,120}\Z", file.name)
                self.assertIsNone(BARRED.search(line), f"{file.name}: {line}")

    def test_functions_are_short(self):
        for name, node in nodes(ast.FunctionDef):
            self.assertLessEqual(node.end_lineno - node.lineno + 1, 40, f"{name}: {node.name}")

    def test_imports_are_of_the_package_only(self):
        for name, node in nodes(ast.ImportFrom):
            self.assertEqual((node.level, node.module.split(".")[0]), (0, "heapmeld"), name)

    def test_no_statement_or_sign_that_is_not_allowed(self):
        self.assertEqual([(name, node) for name, node in nodes(NOT_ALLOWED)], [])
        for name, node in nodes(ast.Constant):
            self.assertNotIsInstance(node.value, (float, complex), name)
            if isinstance(node.value, str):
                self.assertNotIn("%", node.value, name)

    def test_powers_have_written_exponents(self):
        for name, node in nodes(ast.BinOp):
            if isinstance(node.op, ast.Pow):
                self.assertIsInstance(node.right, ast.Constant, name)

    def test_no_local_name_hides_an_import_or_a_class(self):
        for file in FILES:
            tree = ast.parse(file.read_text())
            taken = {alias.name for node in tree.body if isinstance(node, ast.ImportFrom) for alias in node.names}
            taken |= {node.name for node in tree.body if isinstance(node, ast.ClassDef)}
            for node in ast.walk(tree):
                if isinstance(node, ast.arg):
                    self.assertNotIn(node.arg, taken, file.name)
                if isinstance(node, ast.Name) and isinstance(node.ctx, ast.Store):
                    self.assertNotIn(node.id, taken | BUILTINS, file.name)

    def test_names_are_plain(self):
        for name, node in nodes((ast.Name, ast.arg, ast.Attribute)):
            text = getattr(node, "id", None) or getattr(node, "arg", None) or node.attr
            self.assertFalse(text.startswith("_"), f"{name}: {text}")

    def test_only_builtins_that_are_allowed(self):
        barred = set(dir(__builtins__) if not isinstance(__builtins__, dict) else __builtins__) - BUILTINS
        for name, node in nodes(ast.Name):
            self.assertNotIn(node.id, barred, name)
        for name, node in nodes(ast.arg):
            self.assertNotIn(node.arg, barred | BUILTINS, name)


if __name__ == "__main__":
    unittest.main()
