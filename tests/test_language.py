"""Those rules of the language that are seen row by row: files, imports, sizes, signs and words."""

import ast
import pathlib
import re
import unittest

PACKAGE = pathlib.Path(__file__).resolve().parent.parent / "waxcloth"
BANNED = [
    "type", "typing", "typing_extensions", "enum", "Enum", "IntEnum", "StrEnum", "Flag", "IntFlag", "Generic",
    "Protocol", "ABC", "ABCMeta", "namedtuple", "NamedTuple", "TypedDict", "TYPE_CHECKING", "abstractmethod",
]
BANNED_WITHIN = ["dataclass", "overload", "contextmanager"]


def sources():
    return sorted(PACKAGE.glob("*.py"))


class Language(unittest.TestCase):
    def test_nothing_else_lies_in_the_package(self):
        others = [
            path.name for path in PACKAGE.iterdir()
            if path.name != "__pycache__" and not re.fullmatch(r"[a-z0-9_]+\.py", path.name)
        ]
        self.assertEqual(others, [])
        self.assertTrue((PACKAGE / "__init__.py").is_file())

    def test_sizes_and_signs(self):
        for path in sources():
            with self.subTest(path.name):
                text = path.read_bytes().decode("ascii")
                rows = text.split("\n")
                self.assertLessEqual(len(rows) - 1, 400)
                self.assertLessEqual(max(len(row) for row in rows), 120)
                self.assertTrue(all(sign == "\n" or " " <= sign <= "~" for sign in text))

    def test_functions_are_short(self):
        for path in sources():
            for node in ast.walk(ast.parse(path.read_text())):
                if isinstance(node, ast.FunctionDef):
                    with self.subTest(f"{path.name} {node.name}"):
                        self.assertLessEqual(node.end_lineno - node.lineno + 1, 40)

    def test_imports_are_the_package_s_own(self):
        for path in sources():
            for node in ast.walk(ast.parse(path.read_text())):
                self.assertNotIsInstance(node, ast.Import)
                if isinstance(node, ast.ImportFrom):
                    with self.subTest(f"{path.name} {node.module}"):
                        self.assertEqual(node.level, 0)
                        self.assertTrue(node.module.startswith("waxcloth."))

    def test_banned_words(self):
        for path in sources():
            with self.subTest(path.name):
                text = path.read_text()
                words = set(re.findall(r"[A-Za-z0-9_]+", text))
                self.assertEqual(sorted(words & set(BANNED)), [])
                self.assertEqual([word for word in BANNED_WITHIN if word in text], [])


if __name__ == "__main__":
    unittest.main()
