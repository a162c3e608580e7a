"""The package's files keep to the small part of the language that they are written in."""

import ast
import builtins
import re
import unittest
from pathlib import Path

PACKAGE = Path(__file__).resolve().parent.parent / "scheduledhouse"
FILES = [path for path in sorted(PACKAGE.rglob("*")) if "__pycache__" not in path.parts]

# The statements and expressions that may stand in a file (L3 to L7); tuples, names and the like come with them.
ALLOWED = """Module ImportFrom alias FunctionDef arguments arg ClassDef Assign AugAssign If While For Return Break
Continue Pass Raise Try ExceptHandler Expr Constant Name Load Store List Tuple Dict BinOp UnaryOp BoolOp Compare Call
keyword Attribute Subscript Slice IfExp ListComp comprehension JoinedStr FormattedValue Lambda Add Sub Mult FloorDiv
Mod Pow LShift RShift BitAnd BitOr BitXor Invert Not USub And Or Eq NotEq Lt LtE Gt GtE Is IsNot In NotIn""".split()

BUILT_IN = """len range enumerate zip min max sum abs sorted reversed int str bool list tuple dict set frozenset
isinstance ord repr any all divmod Exception ValueError TypeError KeyError IndexError LookupError ZeroDivisionError
ArithmeticError OverflowError RuntimeError NotImplementedError AttributeError StopIteration""".split()

METHODS = """append clear copy count endswith extend find get index insert isalnum isalpha isdigit islower isspace
isupper items join keys ljust lower lstrip partition pop remove replace reverse rfind rjust rpartition rsplit rstrip
setdefault split splitlines startswith strip update upper values zfill bit_length""".split()

NO_WORDS = re.compile(r"\b(type|typing|typing_extensions|enum|Enum|IntEnum|StrEnum|Flag|IntFlag|Generic|Protocol|ABC|"
                      r"ABCMeta|namedtuple|NamedTuple|TypedDict|TYPE_CHECKING|abstractmethod)\b|"
                      r"dataclass|overload|contextmanager")

NO_NAMES = "register mro elements open input version_info with_traceback add_note format format_map".split()


def trees():
    return [(path.name, ast.parse(path.read_text(encoding="utf-8"))) for path in FILES]


def nodes():
    return [(f"{name}:{getattr(node, 'lineno', 0)}", node) for name, tree in trees() for node in ast.walk(tree)]


class Files(unittest.TestCase):
    def test_only_plain_files(self):
        self.assertIn("__init__.py", [path.name for path in FILES])
        for path in FILES:
            self.assertTrue(path.is_file() and re.fullmatch(r"[a-z0-9_]+\.py", path.name), path)

    def test_signs_words_and_sizes(self):
        for path in FILES:
            text = path.read_bytes().decode("ascii")
            lines = text.split("\n")
            self.assertEqual([sign for sign in text if not (sign == "\n" or " " <= sign <= "~")], [], path)
            self.assertIsNone(NO_WORDS.search(text), path)
            self.assertLessEqual(len(lines), 400, path)
            self.assertLessEqual(max(len(line) for line in lines), 120, path)


class Code(unittest.TestCase):
    def test_statements_and_expressions(self):
        for where, node in nodes():
            self.assertIn(node.__class__.__name__, ALLOWED, where)
            if isinstance(node, ast.Constant):
                self.assertTrue(node.value is None or node.value.__class__ in (int, str, bool), where)
            if isinstance(node, ast.Assign):
                self.assertEqual(len(node.targets), 1, where)
                self.assertNotIsInstance(node.targets[0], (ast.Tuple, ast.List), where)
            if isinstance(node, (ast.For, ast.While)):
                self.assertEqual(node.orelse, [], where)
            if isinstance(node, ast.ListComp):
                self.assertTrue(len(node.generators) == 1 and len(node.generators[0].ifs) <= 1, where)

    def test_defs(self):
        for where, node in nodes():
            if isinstance(node, (ast.FunctionDef, ast.ClassDef)):
                self.assertEqual(node.decorator_list, [], where)
            if isinstance(node, ast.FunctionDef):
                self.assertLessEqual(node.end_lineno - node.lineno + 1, 40, where)
                plain = node.args
                self.assertEqual((plain.vararg, plain.kwarg, plain.kwonlyargs), (None, None, []), where)
                self.assertEqual([each for each in plain.args if each.annotation], [], where)

    def test_imports(self):
        for name, tree in trees():
            for node in ast.walk(tree):
                if isinstance(node, ast.ImportFrom):
                    self.assertIn(node, tree.body, name)
                    self.assertRegex(node.module, r"^scheduledhouse\.[a-z]+$", name)
                    self.assertEqual(node.level, 0, name)
                    self.assertEqual([each for each in node.names if each.name == "*" or each.asname], [], name)
                    source = ast.parse((PACKAGE / (node.module.split(".")[1] + ".py")).read_text())
                    self.assertLessEqual({each.name for each in node.names}, set(bound(source)), name)

    def test_each_name_once_and_all_known(self):
        for name, tree in trees():
            top = bound(tree)
            self.assertEqual(len(top), len(set(top)), name)
            imported = [each.name for node in tree.body if isinstance(node, ast.ImportFrom) for each in node.names]
            given = {node.id for node in ast.walk(tree) if isinstance(node, ast.Name) and isinstance(node.ctx, ast.Store)}
            given |= {node.arg for node in ast.walk(tree) if isinstance(node, ast.arg)}
            used = {node.id for node in ast.walk(tree) if isinstance(node, ast.Name)}
            self.assertEqual(used - given - set(top) - set(imported) - set(BUILT_IN), set(), name)
            self.assertEqual(given & (set(dir(builtins)) | set(imported) | set(NO_NAMES) | set(BUILT_IN)), set(), name)
            for each in given | set(top):
                self.assertRegex(each, r"^[A-Za-z][A-Za-z0-9_]*$", name)

    def test_values_and_methods(self):
        own = {node.attr for where, node in nodes() if isinstance(node, ast.Attribute) and isinstance(node.ctx, ast.Store)}
        for where, node in nodes():
            if isinstance(node, ast.Attribute):
                self.assertIn(node.attr, own | set(METHODS), where)
                self.assertNotIn(node.attr, NO_NAMES, where)
        for value in (str, int, list, dict, set, bytes, tuple, bool):
            self.assertEqual(own & set(dir(value)), set())


def bound(tree):
    """The names that a file's top binds, in order, but for its imports."""
    names = []
    for node in tree.body:
        if isinstance(node, (ast.FunctionDef, ast.ClassDef)):
            names.append(node.name)
        elif isinstance(node, ast.Assign):
            names.append(node.targets[0].id)
    return names


if __name__ == "__main__":
    unittest.main()
