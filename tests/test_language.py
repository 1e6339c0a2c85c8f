"""What can be seen of ../shared/LANGUAGE.md by reading the files of the package."""

import ast
import re
import unittest
from pathlib import Path

PACKAGE = Path(__file__).resolve().parent.parent / "gripwood"

BUILTINS = """len range enumerate zip min max sum abs sorted reversed int str bool bytes list tuple dict set
frozenset isinstance ord repr any all divmod Exception ValueError TypeError KeyError IndexError LookupError
ZeroDivisionError ArithmeticError OverflowError RuntimeError NotImplementedError AttributeError StopIteration
NotImplemented True False None""".split()
BARRED_WORDS = re.compile(r"\b(type|typing|typing_extensions|enum|Enum|IntEnum|StrEnum|Flag|IntFlag|Generic|Protocol"
                          r"|ABC|ABCMeta|namedtuple|NamedTuple|TypedDict|TYPE_CHECKING|abstractmethod)\b"
                          r"|dataclass|overload|contextmanager")
BARRED_NAMES = "register mro elements open input version_info with_traceback add_note format format_map".split()
BARRED_NODES = (ast.Global, ast.AsyncFunctionDef, ast.AsyncFor, ast.AsyncWith, ast.Await, ast.Import, ast.Div)
BARRED_ATTRIBUTES = """items keys values pop update append clear extend insert remove reverse setdefault sort args encode
decode hex fromhex format""".split()
DOUBLE_NAMES = "__init__ __eq__ __repr__ __str__ __len__ __enter__ __exit__ __call__ __iter__".split()


def files():
    return sorted(path for path in PACKAGE.iterdir() if path.name != "__pycache__")


def parsed():
    """The name, the text and the tree of each file."""
    texts = [(path.name, path.read_text("utf-8")) for path in files()]
    return [(name, text, ast.parse(text)) for name, text in texts]


def methods(tree):
    return [node for kind in ast.walk(tree) if isinstance(kind, ast.ClassDef)
            for node in kind.body if isinstance(node, ast.FunctionDef)]


def bound_names(tree):
    """All names that a file gives to something, but for methods and attributes."""
    passed = methods(tree)
    for node in ast.walk(tree):
        if isinstance(node, (ast.FunctionDef, ast.ClassDef)) and node not in passed:
            yield node.name
        elif isinstance(node, ast.arg):
            yield node.arg
        elif isinstance(node, ast.Name) and isinstance(node.ctx, ast.Store):
            yield node.id
        elif isinstance(node, ast.alias):
            yield node.asname or node.name
        elif isinstance(node, ast.ExceptHandler) and node.name:
            yield node.name


def attributes(tree, kind):
    """The names of all attributes that are read or, where the kind is ast.Store, assigned."""
    return [node.attr for node in ast.walk(tree) if isinstance(node, ast.Attribute) and isinstance(node.ctx, kind)]


class Language(unittest.TestCase):
    def test_files(self):
        self.assertIn("__init__.py", [path.name for path in files()])
        for path in files():
            self.assertRegex(path.name, r"\A([a-z][a-z0-9_]*|__init__|__main__)\.py\Z")

    def test_characters(self):
        for file, text, tree in parsed():
            self.assertRegex(text, r"\A[ -~\n]*\Z", file)
            texts = [node.value for node in ast.walk(tree)
                     if isinstance(node, ast.Constant) and isinstance(node.value, str)]
            self.assertNotIn("%", "".join(texts), file)

    def test_sizes(self):
        for file, text, tree in parsed():
            self.assertLessEqual(len(text.splitlines()), 400, file)
            self.assertLessEqual(max(map(len, text.splitlines())), 120, file)
            for node in ast.walk(tree):
                if isinstance(node, ast.FunctionDef):
                    self.assertLessEqual(node.end_lineno - node.lineno + 1, 40, (file, node.name))

    def test_words_and_names(self):
        for file, text, tree in parsed():
            self.assertIsNone(BARRED_WORDS.search(text), file)
            for name in bound_names(tree):
                self.assertNotIn(name, BARRED_NAMES + BUILTINS, file)
                self.assertRegex(name, r"\A[A-Za-z][A-Za-z0-9_]*\Z", file)
            for node in methods(tree):
                self.assertNotIn(node.name, BARRED_NAMES, file)
                if node.name not in DOUBLE_NAMES:
                    self.assertRegex(node.name, r"\A[A-Za-z][A-Za-z0-9_]*\Z", file)

    def test_nothing_that_is_left_out(self):
        for file, text, tree in parsed():
            for node in ast.walk(tree):
                self.assertNotIsInstance(node, BARRED_NODES, file)
                self.assertFalse(isinstance(node, ast.Constant) and isinstance(node.value, (float, complex)), file)

    def test_module_level(self):
        allowed = (ast.Expr, ast.ImportFrom, ast.FunctionDef, ast.ClassDef, ast.Assign)
        for file, text, tree in parsed():
            for at, node in enumerate(tree.body):
                self.assertIsInstance(node, allowed, file)
                if isinstance(node, ast.Expr):
                    self.assertEqual(at, 0, file)
                if isinstance(node, ast.ImportFrom):
                    self.assertTrue(node.module.startswith("gripwood.") and node.level == 0, file)
                    self.assertNotIn("*", [name.name for name in node.names], file)

    def test_imports_name_the_file_that_defines_the_name(self):
        defined = {name[:-3]: [node.name for node in tree.body if isinstance(node, (ast.FunctionDef, ast.ClassDef))]
                   for name, text, tree in parsed()}
        for file, text, tree in parsed():
            for node in tree.body:
                if isinstance(node, ast.ImportFrom):
                    for name in node.names:
                        self.assertIn(name.name, defined[node.module.partition(".")[2]], file)

    def test_no_two_files_import_from_each_other(self):
        left = {name[:-3]: [node.module.partition(".")[2] for node in tree.body if isinstance(node, ast.ImportFrom)]
                for name, text, tree in parsed()}
        while left:
            done = [name for name in left if not any(other in left for other in left[name])]
            self.assertTrue(done, sorted(left))
            for name in done:
                del left[name]

    def test_no_name_of_an_import_or_a_class_is_given_to_something_else(self):
        for file, text, tree in parsed():
            fixed = [name.name for node in tree.body if isinstance(node, ast.ImportFrom) for name in node.names]
            fixed += [node.name for node in tree.body if isinstance(node, ast.ClassDef)]
            names = list(bound_names(tree))
            self.assertEqual([name for name in fixed if names.count(name) != 1], [], file)

    def test_no_name_is_a_method_and_an_attribute(self):
        called = [node.name for file, text, tree in parsed() for node in methods(tree)]
        for file, text, tree in parsed():
            for name in attributes(tree, ast.Store):
                self.assertNotIn(name, called + BARRED_ATTRIBUTES, file)

    def test_no_method_is_defined_twice_in_a_class(self):
        for file, text, tree in parsed():
            for kind in [node for node in ast.walk(tree) if isinstance(node, ast.ClassDef)]:
                names = [node.name for node in kind.body if isinstance(node, ast.FunctionDef)]
                self.assertEqual(len(names), len(set(names)), (file, kind.name))

    def test_attributes_that_are_read_are_assigned_or_called(self):
        assigned = [name for file, text, tree in parsed() for name in attributes(tree, ast.Store)]
        for file, text, tree in parsed():
            called = [node.func for node in ast.walk(tree) if isinstance(node, ast.Call)]
            for node in ast.walk(tree):
                if isinstance(node, ast.Attribute) and isinstance(node.ctx, ast.Load) and node not in called:
                    self.assertIn(node.attr, assigned, file)

    def test_nothing_is_walked_through_in_the_order_of_a_set(self):
        for file, text, tree in parsed():
            for node in ast.walk(tree):
                if isinstance(node, (ast.For, ast.comprehension)):
                    walked = node.iter
                    self.assertNotIsInstance(walked, (ast.Set, ast.SetComp), file)
                    named = isinstance(walked, ast.Call) and isinstance(walked.func, ast.Name)
                    self.assertFalse(named and walked.func.id in ("set", "frozenset"), file)

    def test_names_that_are_read_are_known(self):
        for file, text, tree in parsed():
            known = [*BUILTINS, *bound_names(tree)]
            read = [node.id for node in ast.walk(tree) if isinstance(node, ast.Name)]
            self.assertEqual([name for name in read if name not in known], [], file)


if __name__ == "__main__":
    unittest.main()
