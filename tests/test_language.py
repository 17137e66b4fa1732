"""Those rules of the language that are seen row by row: files, imports, sizes, signs, words, and Python's own parts."""

import ast
import builtins
import pathlib
import re
import unittest

PACKAGE = pathlib.Path(__file__).resolve().parent.parent / "waxcloth"
BANNED = [
    "type", "typing", "typing_extensions", "enum", "Enum", "IntEnum", "StrEnum", "Flag", "IntFlag", "Generic",
    "Protocol", "ABC", "ABCMeta", "namedtuple", "NamedTuple", "TypedDict", "TYPE_CHECKING", "abstractmethod",
]
BANNED_WITHIN = ["dataclass", "overload", "contextmanager"]
# What L6 and L7 leave out, by the names that Python's own reading gives it.
OUTSIDE = (
    ast.With, ast.Match, ast.Global, ast.Nonlocal, ast.Yield, ast.YieldFrom, ast.Await, ast.AsyncFunctionDef,
    ast.AsyncFor, ast.AsyncWith, ast.GeneratorExp, ast.NamedExpr, ast.Div, ast.MatMult, ast.Import,
)
BUILT_IN = [
    "len", "range", "enumerate", "zip", "min", "max", "sum", "abs", "sorted", "reversed", "int", "str", "bool",
    "bytes", "list", "tuple", "dict", "set", "frozenset", "isinstance", "ord", "repr", "any", "all", "divmod",
    "Exception", "ValueError", "TypeError", "KeyError", "IndexError", "LookupError", "ZeroDivisionError",
    "ArithmeticError", "OverflowError", "RuntimeError", "NotImplementedError", "AttributeError", "StopIteration",
]
METHODS = [
    "append", "clear", "copy", "count", "endswith", "extend", "find", "get", "index", "insert", "isalnum", "isalpha",
    "isdigit", "islower", "isspace", "isupper", "items", "join", "keys", "ljust", "lower", "lstrip", "partition",
    "pop", "remove", "replace", "reverse", "rfind", "rjust", "rpartition", "rsplit", "rstrip", "setdefault", "split",
    "splitlines", "startswith", "strip", "update", "upper", "values", "zfill", "bit_length", "add", "discard", "sort",
]
# Values of objects must not bear these names (L26); methods may be called like those of L25 alone.
NO_VALUES = [
    "items", "keys", "values", "pop", "update", "append", "clear", "extend", "insert", "remove", "reverse",
    "setdefault", "sort", "args", "encode", "decode", "hex", "fromhex", "format",
]
STATEMENTS = (
    ast.Assign, ast.AugAssign, ast.AnnAssign, ast.If, ast.While, ast.For, ast.Return, ast.Break, ast.Continue,
    ast.Pass, ast.Raise, ast.Try, ast.Expr, ast.Assert, ast.Delete, ast.FunctionDef, ast.ClassDef, ast.ImportFrom,
)
WALKED_AT_ONCE = ["zip", "enumerate", "reversed", "range"]
WALKERS = ["list", "tuple", "dict", "sorted", "sum", "any", "all", "enumerate", "zip", "min", "max", "len"]


def sources():
    return sorted(PACKAGE.glob("*.py"))


def nodes():
    """Each part of each file, with the file's name."""
    return [(path.name, node) for path in sources() for node in ast.walk(ast.parse(path.read_text()))]


def called(node):
    """The plain name that is called here, or None."""
    if isinstance(node, ast.Call) and isinstance(node.func, ast.Name):
        return node.func.id
    return None


def bound_names(node):
    """The names that this part gives a meaning."""
    if isinstance(node, ast.Name) and isinstance(node.ctx, ast.Store):
        return [node.id]
    if isinstance(node, ast.arg):
        return [node.arg]
    if isinstance(node, (ast.FunctionDef, ast.ClassDef)):
        return [node.name]
    if isinstance(node, (ast.Import, ast.ImportFrom)):
        return [name.asname or name.name for name in node.names]
    return []


def own_methods():
    """The names of all methods of the package's classes."""
    classes = [node for name, node in nodes() if isinstance(node, ast.ClassDef)]
    return {part.name for node in classes for part in node.body if isinstance(part, ast.FunctionDef)}


def own_values():
    """The names of all values that objects are given."""
    return {node.attr for name, node in nodes() if isinstance(node, ast.Attribute) and isinstance(node.ctx, ast.Store)}


def is_plain_top(value, defs):
    """Whether the value may stand at a file's top: plain, or made of plain ones and of defs above."""
    if isinstance(value, (ast.List, ast.Tuple)):
        return all(is_plain_top(part, defs) for part in value.elts)
    if isinstance(value, ast.Dict):
        return all(is_plain_top(part, defs) for part in value.keys + value.values)
    return isinstance(value, ast.Constant) or isinstance(value, ast.Name) and value.id in defs


class Language(unittest.TestCase):
    def test_nothing_else_lies_in_the_package(self):
        others = [
            path.name for path in PACKAGE.iterdir()
            if path.name != "__pycache__" and not re.fullmatch(r"[a-z0-9_]+\.py", path.name)
        ]
        self.assertEqual(others, [])
        self.assertTrue((PACKAGE / "__init__.py").is_file())

    def test_sizes_and_signs(self):
        for path in sources():
            with self.subTest(path.name):
                text = path.read_bytes().decode("ascii")
                rows = text.split("\n")
                self.assertLessEqual(len(rows) - 1, 400)
                self.assertLessEqual(max(len(row) for row in rows), 120)
                self.assertTrue(all(sign == "\n" or " " <= sign <= "~" for sign in text))

    def test_functions_are_short(self):
        for path in sources():
            for node in ast.walk(ast.parse(path.read_text())):
                if isinstance(node, ast.FunctionDef):
                    with self.subTest(f"{path.name} {node.name}"):
                        self.assertLessEqual(node.end_lineno - node.lineno + 1, 40)

    def test_imports_are_the_package_s_own(self):
        for path in sources():
            for node in ast.walk(ast.parse(path.read_text())):
                self.assertNotIsInstance(node, ast.Import)
                if isinstance(node, ast.ImportFrom):
                    with self.subTest(f"{path.name} {node.module}"):
                        self.assertEqual(node.level, 0)
                        self.assertTrue(node.module.startswith("waxcloth."))

    def test_banned_words(self):
        for path in sources():
            with self.subTest(path.name):
                text = path.read_text()
                words = set(re.findall(r"[A-Za-z0-9_]+", text))
                self.assertEqual(sorted(words & set(BANNED)), [])
                self.assertEqual([word for word in BANNED_WITHIN if word in text], [])

    def test_no_part_from_outside(self):
        for name, node in nodes():
            with self.subTest(f"{name} {ast.dump(node)[:60]}"):
                self.assertNotIsInstance(node, OUTSIDE)
                if isinstance(node, ast.Constant):
                    self.assertNotIsInstance(node.value, (float, complex))
                if isinstance(node, (ast.For, ast.While)):
                    self.assertEqual(node.orelse, [])
                if isinstance(node, (ast.FunctionDef, ast.ClassDef)):
                    self.assertEqual(node.decorator_list, [])
                if isinstance(node, ast.FunctionDef):
                    self.assertIsNone(node.args.vararg or node.args.kwarg)
                    self.assertEqual(node.args.posonlyargs, [])
                if isinstance(node, ast.Constant) and isinstance(node.value, str):
                    self.assertNotIn("%", node.value)

    def test_python_s_own_names(self):
        for name, node in nodes():
            if isinstance(node, ast.Name) and hasattr(builtins, node.id):
                with self.subTest(f"{name} {node.id}"):
                    self.assertIn(node.id, BUILT_IN)
            for word in bound_names(node):
                with self.subTest(f"{name} {word}"):
                    self.assertFalse(hasattr(builtins, word) and not word.startswith("__"))
                    self.assertRegex(word, r"\A([A-Za-z][A-Za-z0-9_]*|__init__|__eq__|__repr__|__str__|__len__)\Z")

    def test_no_local_is_called_like_a_class_or_an_import(self):
        for path in sources():
            tree = ast.parse(path.read_text())
            tops = [part for part in tree.body if isinstance(part, (ast.ImportFrom, ast.ClassDef))]
            taken = {word for part in tops for word in bound_names(part)}
            for part in ast.walk(tree):
                if isinstance(part, (ast.Name, ast.arg)):
                    self.assertEqual(sorted(taken & set(bound_names(part))), [])

    def test_names_of_a_file_s_top_stand_once(self):
        for path in sources():
            words = []
            for part in ast.parse(path.read_text()).body:
                self.assertIsInstance(part, (ast.Expr, ast.ImportFrom, ast.FunctionDef, ast.ClassDef, ast.Assign))
                targets = part.targets if isinstance(part, ast.Assign) else [part]
                words += [word for target in targets for word in bound_names(target)]
            self.assertEqual(len(words), len(set(words)))

    def test_methods_are_listed_or_the_program_s_own(self):
        own = own_methods()
        for name, node in nodes():
            if isinstance(node, ast.Call) and isinstance(node.func, ast.Attribute):
                with self.subTest(f"{name} {node.func.attr}"):
                    self.assertIn(node.func.attr, set(METHODS) | own)

    def test_is_stands_beside_none_true_and_false(self):
        for name, node in nodes():
            if isinstance(node, ast.Compare) and any(isinstance(sign, (ast.Is, ast.IsNot)) for sign in node.ops):
                sides = [node.left] + node.comparators
                self.assertTrue([side for side in sides if isinstance(side, ast.Constant)])
                self.assertIn([side.value for side in sides if isinstance(side, ast.Constant)][0], (None, True, False))

    def test_walked_at_once(self):
        at_once = set()
        for name, node in nodes():
            if isinstance(node, (ast.For, ast.comprehension)):
                at_once.add((name, ast.unparse(node.iter)))
            if called(node) in WALKERS:
                at_once.update([(name, ast.unparse(thing)) for thing in node.args])
            # This one is named in L23: it may stand where reversed(..) may.
            if called(node) == "reversed" and called(node.args[0]) == "range":
                at_once.add((name, ast.unparse(node.args[0])))
        for name, node in nodes():
            if called(node) in WALKED_AT_ONCE:
                with self.subTest(f"{name} {ast.unparse(node)}"):
                    self.assertIn((name, ast.unparse(node)), at_once)

    def test_classes_hold_methods_alone(self):
        for name, node in nodes():
            if isinstance(node, ast.ClassDef):
                with self.subTest(f"{name} {node.name}"):
                    self.assertLessEqual(len(node.bases), 1)
                    self.assertEqual(node.keywords, [])
                    others = node.body[1:]
                    self.assertIsNotNone(ast.get_docstring(node))
                    self.assertTrue(all(isinstance(part, ast.FunctionDef) for part in others))
                    words = [part.name for part in others]
                    self.assertEqual(len(words), len(set(words)))

    def test_methods_and_values_bear_unlike_names(self):
        methods, values = own_methods(), own_values()
        self.assertEqual(sorted(methods & values), [])
        self.assertEqual(sorted(values & set(NO_VALUES)), [])
        python_s = {word for kind in (str, int, list, dict, set, bytes, tuple) for word in dir(kind)}
        self.assertEqual(sorted(methods & python_s - set(METHODS) - {"__init__"}), [])
        parts = nodes()
        called_here = [node.func for name, node in parts if isinstance(node, ast.Call)]
        for name, node in parts:
            if isinstance(node, ast.Attribute) and isinstance(node.ctx, ast.Load) and node not in called_here:
                with self.subTest(f"{name} {node.attr}"):
                    self.assertIn(node.attr, values)

    def test_statements(self):
        for name, node in nodes():
            if isinstance(node, ast.stmt):
                with self.subTest(f"{name} {node.lineno}"):
                    self.assertIsInstance(node, STATEMENTS)
            if isinstance(node, ast.Expr):
                self.assertIsInstance(node.value, (ast.Call, ast.Constant))
            if isinstance(node, ast.Raise) and node.exc is not None:
                self.assertIsNotNone(called(node.exc))

    def test_what_a_file_s_top_is_given(self):
        for path in sources():
            defs = set()
            for part in ast.parse(path.read_text()).body:
                if isinstance(part, ast.FunctionDef):
                    defs.add(part.name)
                if isinstance(part, ast.Assign):
                    with self.subTest(f"{path.name} {ast.unparse(part.targets[0])}"):
                        self.assertTrue(is_plain_top(part.value, defs))

    def test_lists_and_dicts_of_a_file_s_top_are_only_read(self):
        for path in sources():
            tree = ast.parse(path.read_text())
            tops = {
                part.targets[0].id for part in tree.body
                if isinstance(part, ast.Assign) and isinstance(part.value, (ast.List, ast.Dict))
            }
            read = [node.value for node in ast.walk(tree) if isinstance(node, ast.Subscript)]
            read += [side for node in ast.walk(tree) if isinstance(node, ast.Compare) for side in node.comparators]
            for node in ast.walk(tree):
                if isinstance(node, ast.Name) and isinstance(node.ctx, ast.Load) and node.id in tops:
                    with self.subTest(f"{path.name} {node.lineno}"):
                        self.assertIn(node, read)

    def test_no_two_files_draw_from_one_another(self):
        draws = {
            path.stem: {
                node.module.split(".")[1] for node in ast.walk(ast.parse(path.read_text()))
                if isinstance(node, ast.ImportFrom)
            }
            for path in sources()
        }
        while draws:
            free = [stem for stem in draws if not draws[stem] & set(draws)]
            self.assertTrue(free, f"these draw in a ring: {sorted(draws)}")
            for stem in free:
                del draws[stem]

    def test_each_name_is_drawn_from_the_file_that_defines_it(self):
        for name, node in nodes():
            if isinstance(node, ast.ImportFrom):
                path = PACKAGE / (node.module.split(".")[1] + ".py")
                own = {
                    word for part in ast.parse(path.read_text()).body if not isinstance(part, ast.ImportFrom)
                    for target in (part.targets if isinstance(part, ast.Assign) else [part])
                    for word in bound_names(target)
                }
                self.assertLessEqual({drawn.name for drawn in node.names}, own)
                self.assertFalse([drawn for drawn in node.names if drawn.asname])


if __name__ == "__main__":
    unittest.main()
