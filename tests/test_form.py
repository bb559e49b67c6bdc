"""Tests of the form of the package: those rules of LANGUAGE.md that are easy to look up in a file."""

import ast
import builtins
import io
import pathlib
import tokenize
import unittest

PACKAGE = pathlib.Path(__file__).resolve().parent.parent / "stayswithin"
LIBRARY = {
    "math": {"gcd", "lcm", "isqrt", "comb", "perm", "factorial"},
    "heapq": {"heappush", "heappop", "heapify", "heapreplace", "heappushpop"},
    "itertools": {"product", "combinations", "permutations", "chain", "accumulate", "pairwise", "islice",
                  "zip_longest"},
    "collections": {"defaultdict", "deque"},
    "__future__": {"annotations"}}
BUILTINS = set("""len range enumerate zip min max sum abs sorted reversed int str bool bytes list tuple dict set
    frozenset isinstance ord repr any all divmod pow getattr hasattr setattr iter next map super property
    staticmethod classmethod object float type print Exception ValueError TypeError KeyError IndexError LookupError
    ZeroDivisionError ArithmeticError OverflowError RuntimeError NotImplementedError AttributeError StopIteration
    NotImplemented""".split())
METHODS = set("""append clear copy count endswith extend find get index insert isalnum isalpha isdigit islower isspace
    isupper items join keys ljust lower lstrip partition pop remove replace reverse rfind rjust rpartition rsplit rstrip
    setdefault split splitlines startswith strip update upper values zfill bit_length title capitalize swapcase casefold
    center expandtabs removeprefix removesuffix rindex isascii isdecimal isnumeric istitle isidentifier isprintable
    translate""".split())
WORDS = set("""type typing typing_extensions enum Enum IntEnum StrEnum Flag IntFlag Generic Protocol ABC ABCMeta namedtuple
    NamedTuple TypedDict TYPE_CHECKING abstractmethod _wall _WallAttr""".split())
BARRED = (ast.Div, ast.MatMult, ast.AsyncFunctionDef, ast.AsyncFor, ast.AsyncWith, ast.Await, ast.Import)


def files():
    return sorted(path for path in PACKAGE.rglob("*") if path.is_file() and "__pycache__" not in path.parts)


def trees():
    return {path: ast.parse(path.read_text("utf-8")) for path in files()}


def defined_in(tree):
    """The names that a file binds at module level, imports excluded."""
    names = []
    for node in tree.body:
        if isinstance(node, (ast.FunctionDef, ast.ClassDef)):
            names.append(node.name)
        elif isinstance(node, ast.Assign):
            names.extend(target.id for target in node.targets)
    return names


def imports_of(tree):
    return [node for node in ast.walk(tree) if isinstance(node, ast.ImportFrom)]


def bound_in(tree):
    """All names that a file binds anywhere."""
    names = set(defined_in(tree))
    for node in ast.walk(tree):
        if isinstance(node, ast.alias):
            names.add(node.name)
        elif isinstance(node, ast.arg):
            names.add(node.arg)
        elif isinstance(node, ast.FunctionDef):
            names.add(node.name)
        elif isinstance(node, ast.Name) and not isinstance(node.ctx, ast.Load):
            names.add(node.id)
    return names


def locals_of(tree):
    """The names of parameters and of what functions assign, those of classes and functions excluded."""
    names = {node.arg for node in ast.walk(tree) if isinstance(node, ast.arg)}
    for function in ast.walk(tree):
        if isinstance(function, ast.FunctionDef):
            names |= {node.id for node in ast.walk(function)
                      if isinstance(node, ast.Name) and not isinstance(node.ctx, ast.Load)}
    return names


def methods_of(tree):
    return {node.name for kind in tree.body if isinstance(kind, ast.ClassDef)
            for node in kind.body if isinstance(node, ast.FunctionDef)}


class Files(unittest.TestCase):
    def test_only_python_files_with_plain_names(self):
        for path in files():
            self.assertRegex(path.name, r"\A[a-z0-9_]+\.py\Z")
        self.assertIn(PACKAGE / "__init__.py", files())

    def test_sizes_and_characters(self):
        for path in files():
            text = path.read_bytes().decode("ascii")
            self.assertLessEqual(len(text.splitlines()), 399, path.name)
            for number, line in enumerate(text.split("\n"), 1):
                with self.subTest(path.name, line=number):
                    self.assertLessEqual(len(line), 120)
                    self.assertTrue(all(" " <= sign <= "~" for sign in line))

    def test_functions_have_at_most_40_lines(self):
        for path, tree in trees().items():
            for node in ast.walk(tree):
                if isinstance(node, ast.FunctionDef):
                    with self.subTest(path.name, function=node.name):
                        self.assertLessEqual(node.end_lineno - node.lineno + 1, 40)


class Imports(unittest.TestCase):
    def test_only_what_is_allowed_from_the_very_file_that_defines_it(self):
        defined = {"stayswithin." + path.stem: defined_in(tree) for path, tree in trees().items()}
        for path, tree in trees().items():
            for node in imports_of(tree):
                with self.subTest(path.name, line=node.lineno):
                    self.assertEqual(node.level, 0)
                    known = LIBRARY.get(node.module, defined.get(node.module, ()))
                    for alias in node.names:
                        self.assertIn(alias.name, known)
                        self.assertIsNone(alias.asname)

    def test_no_two_files_import_from_each_other(self):
        needed = {"stayswithin." + path.stem: {node.module for node in imports_of(tree)}
                  for path, tree in trees().items()}
        ready = set(LIBRARY)
        waiting = dict(needed)
        while waiting:
            free = [name for name, wanted in waiting.items() if wanted <= ready]
            self.assertTrue(free, f"a circle among {sorted(waiting)}")
            for name in free:
                ready.add(name)
                del waiting[name]


class Code(unittest.TestCase):
    def test_nothing_barred(self):
        for path, tree in trees().items():
            for node in ast.walk(tree):
                with self.subTest(path.name, line=getattr(node, "lineno", 0)):
                    self.assertNotIsInstance(node, BARRED)
                    if isinstance(node, ast.Constant):
                        self.assertNotIsInstance(node.value, (float, complex))

    def test_each_name_at_module_level_is_bound_once(self):
        for path, tree in trees().items():
            names = defined_in(tree) + [alias.name for node in imports_of(tree) for alias in node.names]
            self.assertEqual(len(names), len(set(names)), path.name)

    def test_names_that_are_read_are_own_ones_or_allowed_builtins(self):
        for path, tree in trees().items():
            known = bound_in(tree) | BUILTINS
            for node in ast.walk(tree):
                if isinstance(node, ast.Name):
                    with self.subTest(path.name, line=node.lineno):
                        self.assertIn(node.id, known)

    def test_no_local_name_is_that_of_an_import_a_class_or_a_function_of_the_file(self):
        for path, tree in trees().items():
            names = {alias.name for node in imports_of(tree) for alias in node.names} | set(defined_in(tree))
            self.assertEqual(locals_of(tree) & names, set(), path.name)

    def test_methods_are_own_ones_or_allowed_ones_of_builtin_values(self):
        own = set().union(*(methods_of(tree) for tree in trees().values()))
        for path, tree in trees().items():
            for node in ast.walk(tree):
                if isinstance(node, ast.Call) and isinstance(node.func, ast.Attribute):
                    with self.subTest(path.name, line=node.lineno):
                        self.assertIn(node.func.attr, METHODS | own)

    def test_words_that_are_not_used(self):
        for path in files():
            words = {word for _, word, *_ in tokenize.generate_tokens(io.StringIO(path.read_text("ascii")).readline)}
            self.assertEqual(words & WORDS, set(), path.name)

    def test_no_builtin_gets_another_meaning(self):
        for path, tree in trees().items():
            # `_` may be assigned; doctest makes a builtin of it.
            self.assertEqual(bound_in(tree) & set(dir(builtins)) - {"_"}, set(), path.name)


if __name__ == "__main__":
    unittest.main()
