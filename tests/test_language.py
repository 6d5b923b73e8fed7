"""The package keeps to the part of Python that it is written in, as far as can be seen here."""

import ast
import builtins
import pathlib
import re
import unittest

PACKAGE = pathlib.Path(__file__).resolve().parent.parent / "cutless"
FILES = sorted(PACKAGE.glob("*.py"))

UNUSED_WORDS = (
    "type typing typing_extensions enum Enum IntEnum StrEnum Flag IntFlag Generic Protocol ABC ABCMeta "
    "namedtuple NamedTuple TypedDict TYPE_CHECKING abstractmethod"
).split()

UNUSED_NODES = (
    ast.With,
    ast.Match,
    ast.Global,
    ast.Nonlocal,
    ast.Yield,
    ast.YieldFrom,
    ast.AsyncFunctionDef,
    ast.Await,
    ast.GeneratorExp,
    ast.NamedExpr,
    ast.Div,
    ast.Import,
)

BUILT_IN = (
    "len range enumerate zip min max sum abs sorted reversed int str bool bytes list tuple dict set frozenset "
    "isinstance ord repr any all divmod Exception ValueError TypeError KeyError IndexError LookupError "
    "ZeroDivisionError ArithmeticError OverflowError RuntimeError NotImplementedError AttributeError StopIteration"
).split()


def bound_names(tree):
    """Every name that the file gives a meaning anywhere."""
    names = set()
    for node in ast.walk(tree):
        if isinstance(node, (ast.FunctionDef, ast.ClassDef)):
            names.add(node.name)
        elif isinstance(node, ast.arg):
            names.add(node.arg)
        elif isinstance(node, ast.Name) and isinstance(node.ctx, ast.Store):
            names.add(node.id)
        elif isinstance(node, ast.ImportFrom):
            names.update(alias.asname or alias.name for alias in node.names)
        elif isinstance(node, ast.ExceptHandler) and node.name:
            names.add(node.name)
    return names


class Language(unittest.TestCase):
    def test_the_files_of_the_stages_are_there(self):
        told = "__init__ errors statements rows trees fitting steps parting worlds finding texts desk"
        self.assertLessEqual({f"{name}.py" for name in told.split()}, {file.name for file in FILES})

    def test_nothing_but_files_of_the_program_lies_in_the_package(self):
        others = [each.name for each in PACKAGE.iterdir() if each not in FILES and each.name != "__pycache__"]
        self.assertEqual(others, [])

    def test_signs_and_sizes(self):
        for file in FILES:
            text = file.read_text(encoding="utf-8")
            with self.subTest(file=file.name):
                self.assertEqual([sign for sign in text if not (" " <= sign <= "~" or sign == "\n")], [])
                self.assertLessEqual(len(text.splitlines()), 400)
                self.assertEqual([row for row in text.splitlines() if len(row) > 120], [])

    def test_functions_are_short(self):
        for file in FILES:
            for node in ast.walk(ast.parse(file.read_text())):
                if isinstance(node, ast.FunctionDef):
                    self.assertLessEqual(node.end_lineno - node.lineno + 1, 40, (file.name, node.name))

    def test_words_that_stand_nowhere(self):
        for file in FILES:
            text = file.read_text()
            words = re.findall(r"[A-Za-z_]+", text)
            self.assertEqual([word for word in UNUSED_WORDS if word in words], [], file.name)
            for piece in ("dataclass", "overload", "contextmanager"):
                self.assertNotIn(piece, text, file.name)

    def test_forms_that_are_not_used(self):
        for file in FILES:
            for node in ast.walk(ast.parse(file.read_text())):
                where = (file.name, getattr(node, "lineno", 0))
                self.assertNotIsInstance(node, UNUSED_NODES, where)
                if isinstance(node, (ast.FunctionDef, ast.ClassDef)):
                    self.assertEqual(node.decorator_list, [], where)
                if isinstance(node, ast.FunctionDef):
                    self.assertIsNone(node.args.vararg or node.args.kwarg, where)

    def test_imports_are_of_the_package_alone(self):
        for file in FILES:
            for node in ast.walk(ast.parse(file.read_text())):
                if isinstance(node, ast.ImportFrom):
                    where = (file.name, node.lineno)
                    self.assertEqual(node.level, 0, where)
                    self.assertTrue(node.module.startswith("cutless.") or node.module == "__future__", where)

    def test_nothing_within_a_function_is_called_like_an_import_or_a_class(self):
        for file in FILES:
            tree = ast.parse(file.read_text())
            taken = {alias.name for node in ast.walk(tree) if isinstance(node, ast.ImportFrom) for alias in node.names}
            taken |= {node.name for node in ast.walk(tree) if isinstance(node, ast.ClassDef)}
            for function in ast.walk(tree):
                if isinstance(function, (ast.FunctionDef, ast.Lambda)):
                    self.assertEqual(sorted(taken & bound_names(function)), [], (file.name, function.lineno))

    def test_no_two_files_draw_from_one_another(self):
        drawn = {}
        for file in FILES:
            froms = [node for node in ast.walk(ast.parse(file.read_text())) if isinstance(node, ast.ImportFrom)]
            drawn[file.stem] = {node.module.split(".")[1] for node in froms}
        while drawn:
            free = [name for name in drawn if not drawn[name] & set(drawn)]
            self.assertNotEqual(free, [], sorted(drawn))
            for name in free:
                del drawn[name]

    def test_names_are_plain_and_known(self):
        for file in FILES:
            tree = ast.parse(file.read_text())
            bound = bound_names(tree)
            with self.subTest(file=file.name):
                given = [name for name in sorted(bound) if hasattr(builtins, name) and name != "__init__"]
                self.assertEqual(given, [])
                plain = [name for name in sorted(bound) if name.startswith("_") and not name.endswith("__")]
                self.assertEqual(plain, [])
                used = {node.id for node in ast.walk(tree) if isinstance(node, ast.Name)}
                self.assertEqual(sorted(used - bound - set(BUILT_IN)), [])


if __name__ == "__main__":
    unittest.main()
