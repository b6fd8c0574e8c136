"""What of ../shared/LANGUAGE.md a look at the files can tell: files, sizes, signs, imports, names."""

import ast
import builtins
import re
import unittest
import warnings
from pathlib import Path

PACKAGE = Path(__file__).resolve().parent.parent / "jointseat"
FILES = [path for path in sorted(PACKAGE.rglob("*")) if path.suffix != ".pyc" and path.name != "__pycache__"]
BUILTINS = set(
    "len range enumerate zip min max sum abs sorted reversed int str bool list tuple dict set frozenset isinstance "
    "ord repr any all divmod pow super map iter next getattr hasattr setattr type property staticmethod classmethod "
    "object NotImplemented Exception ValueError TypeError KeyError IndexError LookupError ZeroDivisionError "
    "ArithmeticError OverflowError RuntimeError NotImplementedError AttributeError StopIteration".split())
LIBRARY = {"heapq", "math", "itertools", "collections"}
BARRED_WORDS = set(
    "typing typing_extensions enum Enum IntEnum StrEnum Flag IntFlag Generic Protocol ABC ABCMeta namedtuple "
    "NamedTuple TypedDict TYPE_CHECKING abstractmethod".split())
BARRED_NODES = (ast.AsyncFunctionDef, ast.Await, ast.AsyncFor, ast.AsyncWith, ast.Div, ast.MatMult)


def trees():
    return [(path, ast.parse(path.read_text(encoding="utf-8"))) for path in FILES]


def nodes(kind):
    return [(path, node) for path, tree in trees() for node in ast.walk(tree) if isinstance(node, kind)]


class TestLanguage(unittest.TestCase):
    def test_the_folder_holds_only_files_with_plain_names(self):
        self.assertIn(PACKAGE / "__init__.py", FILES)
        for path in FILES:
            self.assertTrue(path.is_file(), path)
            self.assertRegex(path.name, r"\A[a-z0-9_]+\.py\Z")

    def test_sizes(self):
        for path in FILES:
            lines = path.read_text(encoding="utf-8").split("\n")
            self.assertLessEqual(len(lines), 399, path)
            for line in lines:
                self.assertLessEqual(len(line), 120, (path, line))
        for path, node in nodes(ast.FunctionDef):
            self.assertLessEqual(node.end_lineno - node.lineno + 1, 40, (path, node.name))

    def test_signs(self):
        for path in FILES:
            strange = set(path.read_text(encoding="utf-8")) - {chr(sign) for sign in range(32, 127)} - {"\n"}
            self.assertEqual(strange, set(), path)
        for path, node in nodes(ast.Constant):
            self.assertNotIsInstance(node.value, (float, complex), path)

    def test_no_warning(self):
        for path in FILES:
            with self.subTest(path=path), warnings.catch_warnings():
                warnings.simplefilter("error")
                compile(path.read_text(encoding="utf-8"), str(path), "exec")

    def test_imports_name_the_file_that_defines_the_name(self):
        self.assertEqual(nodes(ast.Import), [])
        for path, node in nodes(ast.ImportFrom):
            self.assertEqual(node.level, 0, path)
            if node.module in LIBRARY or node.module == "__future__":
                continue
            self.assertRegex(node.module, r"\Ajointseat\.[a-z_]+\Z")
            source = PACKAGE / (node.module.split(".")[1] + ".py")
            self.assertLessEqual({alias.name for alias in node.names}, self.bound_in(source), (path, node.module))

    def bound_in(self, path):
        bound = set()
        for node in ast.parse(path.read_text(encoding="utf-8")).body:
            if isinstance(node, (ast.FunctionDef, ast.ClassDef)):
                bound.add(node.name)
            elif isinstance(node, ast.Assign):
                bound.update(target.id for target in node.targets)
        return bound

    def test_no_two_files_import_from_each_other(self):
        ahead = {}
        for path, node in nodes(ast.ImportFrom):
            ahead.setdefault("jointseat." + path.stem, set()).add(node.module)
        for _ in range(len(FILES)):
            ahead = {name: found | {far for near in found for far in ahead.get(near, ())}
                     for name, found in ahead.items()}
        for name, found in ahead.items():
            self.assertNotIn(name, found)

    def test_module_level_holds_no_code(self):
        allowed = (ast.ImportFrom, ast.FunctionDef, ast.ClassDef, ast.Assign)
        for path, tree in trees():
            for place, node in enumerate(tree.body):
                docstring = place == 0 and isinstance(node, ast.Expr) and isinstance(node.value, ast.Constant)
                self.assertTrue(docstring or isinstance(node, allowed), (path, node.lineno))

    def test_no_other_builtin_and_no_name_of_one(self):
        others = set(dir(builtins)) - BUILTINS
        for path, node in nodes(ast.Name):
            self.assertNotIn(node.id, others, (path, node.lineno))
            if isinstance(node.ctx, ast.Store):
                self.assertNotIn(node.id, dir(builtins), (path, node.lineno))
        for path, node in nodes(ast.arg):
            self.assertNotIn(node.arg, dir(builtins), (path, node.lineno))

    def test_no_barred_statement_or_word(self):
        self.assertEqual(nodes(BARRED_NODES), [])
        for path in FILES:
            self.assertEqual(set(re.findall(r"\w+", path.read_text(encoding="utf-8"))) & BARRED_WORDS, set(), path)

    def test_what_a_class_with_its_own_sameness_bars(self):
        self.assertEqual(nodes(ast.GeneratorExp), [])
        for path, node in nodes(ast.Attribute):
            self.assertNotEqual(node.attr, "sort", (path, node.lineno))
        for path, node in nodes(ast.FunctionDef):
            if node.name == "__eq__":
                self.assertEqual([type(row) for row in node.body], [ast.Return], path)

    def test_no_barred_name(self):
        barred = re.compile(r"_(record|cold|outside|tuplegetter|written_out|member_names)[0-9_]*\Z"
                            r"|_(wall|pe_|dcw_|enum_|cm_|twin_re_|lay_|law_|stub_|sre|WallAttr)")
        for path, node in nodes((ast.Name, ast.Attribute, ast.FunctionDef, ast.arg)):
            name = getattr(node, "id", None) or getattr(node, "attr", None) or getattr(node, "name", None) or node.arg
            self.assertIsNone(barred.match(name), (path, name))

    def test_no_decorator_but_those_of_methods(self):
        for path, node in nodes((ast.FunctionDef, ast.ClassDef)):
            for decorator in node.decorator_list:
                self.assertIn(ast.unparse(decorator).split(".")[-1],
                              {"property", "setter", "staticmethod", "classmethod"}, path)


if __name__ == "__main__":
    unittest.main()
