"""The rules of ../shared/LANGUAGE.md that can be told by looking at the package's files."""

import ast
import builtins
import re
import unittest
from pathlib import Path

PACKAGE = Path(__file__).resolve().parent.parent / "benchworth"
FILES = sorted(PACKAGE.rglob("*.py"))

ALLOWED_BUILTINS = set("""len range enumerate zip min max sum abs sorted reversed int str bool bytes list tuple dict set
    frozenset isinstance ord repr any all divmod super property staticmethod classmethod object float
    Exception ValueError TypeError KeyError IndexError LookupError ZeroDivisionError ArithmeticError OverflowError
    RuntimeError NotImplementedError AttributeError StopIteration""".split())
ALLOWED_DUNDERS = set("""__init__ __eq__ __repr__ __str__ __len__ __enter__ __exit__ __all__ __version__
    __name__""".split())
BARRED_WORDS = set("""type typing typing_extensions enum Enum IntEnum StrEnum Flag IntFlag Generic Protocol ABC ABCMeta
    namedtuple NamedTuple TypedDict TYPE_CHECKING abstractmethod""".split())
BARRED_PARTS = ("dataclass", "overload", "contextmanager")
BARRED_NAMES = set("""register mro elements open input version_info with_traceback add_note format
    format_map""".split())
UNUSED_NAMES = set("""attrgetter breakpoint builtins compile copyright credits delattr dir eval exec exit gc getattr
    globals hasattr help id importlib license locals methodcaller os quit setattr sys type vars""".split())
BUILTIN_METHODS = set("""append clear copy count endswith extend find get index insert isalnum isalpha isdigit islower
    isspace isupper items join keys ljust lower lstrip partition pop remove replace reverse rfind rjust rpartition
    rsplit rstrip setdefault split splitlines startswith strip update upper values zfill bit_length title capitalize
    swapcase casefold center expandtabs removeprefix removesuffix rindex isascii isdecimal isnumeric istitle
    isidentifier isprintable translate sort add discard""".split())
BARRED_NODES = (ast.Global, ast.AsyncFunctionDef, ast.AsyncFor, ast.AsyncWith, ast.Await, ast.NamedExpr, ast.Div,
                ast.MatMult, ast.Import)
MODULE_NODES = (ast.ImportFrom, ast.FunctionDef, ast.ClassDef, ast.Assign, ast.AnnAssign)


def module_name(path):
    return path.relative_to(PACKAGE.parent).with_suffix("").as_posix().replace("/", ".")


def bound_names(tree):
    """All names that a file gives a meaning, anywhere in it."""
    found = set()
    for node in ast.walk(tree):
        if isinstance(node, ast.Name) and isinstance(node.ctx, (ast.Store, ast.Del)):
            found.add(node.id)
        elif isinstance(node, (ast.FunctionDef, ast.ClassDef)):
            found.add(node.name)
        elif isinstance(node, ast.arg):
            found.add(node.arg)
        elif isinstance(node, ast.alias):
            found.add(node.asname or node.name)
        elif isinstance(node, ast.ExceptHandler) and node.name:
            found.add(node.name)
    return found


def local_names(tree):
    """The names of parameters and variables: a method may be called like a builtin, these may not."""
    found = {node.arg for node in ast.walk(tree) if isinstance(node, ast.arg)}
    names = [node for node in ast.walk(tree) if isinstance(node, ast.Name)]
    return found | {node.id for node in names if isinstance(node.ctx, ast.Store)}


def package_imports(tree):
    return [(node.module, alias.name) for node in tree.body if isinstance(node, ast.ImportFrom)
            and node.module != "__future__" for alias in node.names]


class Rules(unittest.TestCase):
    def setUp(self):
        self.texts = {path: path.read_bytes().decode("utf-8") for path in FILES if path.name != "__main__.py"}
        self.trees = {path: ast.parse(text) for path, text in self.texts.items()}

    def each_node(self):
        for path, tree in self.trees.items():
            for node in ast.walk(tree):
                yield f"{path.name}:{getattr(node, 'lineno', 0)}", node

    def test_files(self):
        self.assertTrue((PACKAGE / "__init__.py").is_file())
        self.assertLessEqual(len(FILES), 100)
        for path in PACKAGE.rglob("*"):
            if "__pycache__" in path.parts or path.is_dir():
                continue
            self.assertRegex(path.name, r"^(__init__|__main__|[a-z][a-z0-9_]*)\.py$")

    def test_sizes(self):
        for path, text in self.texts.items():
            rows = text.split("\n")
            self.assertLessEqual(len(rows) - 1, 400, path.name)
            for number, row in enumerate(rows, 1):
                self.assertLessEqual(len(row), 120, f"{path.name}:{number}")
        for place, node in self.each_node():
            if isinstance(node, ast.FunctionDef):
                self.assertLessEqual(node.end_lineno - node.lineno + 1, 40, place)

    def test_signs_and_words(self):
        for path, text in self.texts.items():
            self.assertRegex(text, r"\A[\n -~]*\Z", path.name)
            words = set(re.findall(r"\w+", text))
            self.assertEqual(words & BARRED_WORDS, set(), path.name)
            for part in BARRED_PARTS:
                self.assertNotIn(part, text, path.name)

    def test_statements_at_module_level(self):
        for path, tree in self.trees.items():
            docstring = ast.get_docstring(tree) is not None
            for node in tree.body[1:] if docstring else tree.body:
                self.assertIsInstance(node, MODULE_NODES, f"{path.name}:{node.lineno}")

    def test_statements_and_expressions(self):
        for place, node in self.each_node():
            self.assertNotIsInstance(node, BARRED_NODES, place)
            if isinstance(node, ast.Constant):
                self.assertNotIsInstance(node.value, (float, complex), place)
                if isinstance(node.value, str):
                    self.assertNotIn("%", node.value, place)

    def test_is_stands_with_none_true_and_false_only(self):
        for place, node in self.each_node():
            if isinstance(node, ast.Compare):
                for how, beside in zip(node.ops, node.comparators):
                    if isinstance(how, (ast.Is, ast.IsNot)):
                        self.assertIsInstance(beside, ast.Constant, place)
                        self.assertIn(beside.value, (None, True, False), place)

    def test_builtins(self):
        for path, tree in self.trees.items():
            bound = bound_names(tree)
            for node in ast.walk(tree):
                if isinstance(node, ast.Name) and node.id not in bound:
                    self.assertIn(node.id, ALLOWED_BUILTINS, f"{path.name}:{node.lineno}")
            self.assertEqual([name for name in local_names(tree) if hasattr(builtins, name)], [], path.name)

    def test_names(self):
        for path, tree in self.trees.items():
            names = bound_names(tree) | {node.attr for node in ast.walk(tree) if isinstance(node, ast.Attribute)}
            for name in names - ALLOWED_DUNDERS:
                self.assertFalse(name.startswith("_"), f"{path.name}: {name}")
                self.assertNotIn(name, BARRED_NAMES, path.name)

    def test_names_that_are_not_used(self):
        for path, tree in self.trees.items():
            self.assertEqual(bound_names(tree) & UNUSED_NAMES, set(), path.name)

    def test_no_local_is_called_like_an_import_a_class_or_a_function(self):
        for path, tree in self.trees.items():
            bound = [node.name for node in tree.body if isinstance(node, (ast.ClassDef, ast.FunctionDef))]
            bound += [alias.asname or alias.name for node in tree.body if isinstance(node, ast.ImportFrom)
                      for alias in node.names]
            self.assertEqual(len(bound), len(set(bound)), path.name)
            self.assertEqual(local_names(tree) & set(bound), set(), path.name)

    def test_module_level_names_are_bound_once(self):
        for path, tree in self.trees.items():
            names = [target.id for node in tree.body if isinstance(node, ast.Assign) for target in node.targets]
            self.assertEqual(len(names), len(set(names)), path.name)

    def test_methods_and_attributes(self):
        methods, assigned, read, called = set(), set(), set(), set()
        for place, node in self.each_node():
            if isinstance(node, ast.ClassDef):
                methods |= {part.name for part in node.body if isinstance(part, ast.FunctionDef)}
            elif isinstance(node, ast.Call) and isinstance(node.func, ast.Attribute):
                called.add(node.func.attr)
            elif isinstance(node, ast.Attribute):
                (assigned if isinstance(node.ctx, ast.Store) else read).add(node.attr)
        self.assertEqual(methods & assigned, set())
        self.assertEqual(called - BUILTIN_METHODS - methods - ALLOWED_DUNDERS, set())
        self.assertEqual(read - assigned - called - ALLOWED_DUNDERS, set())
        for name in (methods | assigned) - ALLOWED_DUNDERS:
            self.assertFalse(any(hasattr(kind, name) for kind in (str, int, list, dict, set, bytes)), name)

    def test_strings_have_plain_escapes_only(self):
        for path, text in self.texts.items():
            self.assertEqual(re.findall(r"\\[^nt\\'\"]", text), [], path.name)

    def test_functions_have_plain_parameters(self):
        for place, node in self.each_node():
            if isinstance(node, (ast.FunctionDef, ast.Lambda)):
                self.assertEqual(node.args.posonlyargs, [], place)
                self.assertEqual(getattr(node, "decorator_list", []), [], place)

    def test_imports(self):
        defined = {}
        for path, tree in self.trees.items():
            defined[module_name(path)] = bound_names(ast.Module(tree.body, [])) - {
                alias.name for node in tree.body if isinstance(node, ast.ImportFrom) for alias in node.names}
        for path, tree in self.trees.items():
            for node in ast.walk(tree):
                if isinstance(node, ast.ImportFrom):
                    self.assertIn(node, tree.body, path.name)
                    self.assertEqual(node.level, 0, path.name)
            for module, name in package_imports(tree):
                self.assertIn(module, defined, path.name)
                self.assertIn(name, defined[module], f"{path.name}: {module}")

    def test_no_two_files_import_from_each_other(self):
        ways = {module_name(path): {module for module, name in package_imports(tree)}
                for path, tree in self.trees.items()}
        for start in ways:
            reached, ahead = set(), list(ways[start])
            while ahead:
                module = ahead.pop()
                if module not in reached:
                    reached.add(module)
                    ahead.extend(ways.get(module, ()))
            self.assertNotIn(start, reached)


if __name__ == "__main__":
    unittest.main()
