"""Those rules of LANGUAGE.md that a short test can see, for every file of the package."""

import ast
import builtins
import pathlib
import re
import unittest

PACKAGE = pathlib.Path(__file__).resolve().parent.parent / "sumslips"

# L8 (less what later rules take away), and the two of L5.
BUILTINS = set(
    "len range enumerate zip min max sum abs sorted reversed int str bool bytes list tuple dict set frozenset "
    "isinstance ord repr any all divmod pow map iter next type getattr hasattr setattr super property staticmethod "
    "classmethod print Exception ValueError TypeError KeyError IndexError LookupError ZeroDivisionError "
    "ArithmeticError OverflowError RuntimeError NotImplementedError AttributeError StopIteration NotImplemented".split()
)

# L25
METHODS = set(
    "append clear copy count endswith extend find get index insert isalnum isalpha isdigit islower isspace isupper "
    "items join keys ljust lower lstrip partition pop remove replace reverse rfind rjust rpartition rsplit rstrip "
    "setdefault split splitlines startswith strip update upper values zfill bit_length title capitalize swapcase "
    "casefold center expandtabs removeprefix removesuffix rindex isascii isdecimal isnumeric istitle isidentifier "
    "isprintable translate maketrans add discard sort format".split()
)

# L2
LIBRARY = {
    "heapq": "heappush heappop heapify heapreplace heappushpop",
    "math": "gcd lcm isqrt comb perm factorial",
    "itertools": "product combinations permutations chain accumulate pairwise islice zip_longest",
    "collections": "defaultdict deque",
}

# L5
OPERATORS = "lt le gt ge ne add sub mul floordiv mod pow and or xor lshift rshift".split()
SPECIAL = {f"__{name}__" for name in OPERATORS}
SPECIAL |= {f"__{start}{name}__" for start in "ri" for name in OPERATORS[5:]}
SPECIAL |= {f"__{name}__" for name in (
    "init", "eq", "repr", "str", "len", "enter", "exit", "call", "iter", "neg", "pos", "invert", "abs", "bool",
    "contains", "getitem", "setitem",
)}

# L17: nowhere; not as a name or a method; not as a word of a file.
NOWHERE = set("mro elements open input law version_info with_traceback add_note register".split())
NO_NAMES = set(
    "attrgetter breakpoint builtins compile copyright credits delattr dir eval exec exit gc globals help id importlib "
    "license locals methodcaller os quit vars sys".split()
)
NO_WORDS = set(
    "typing typing_extensions enum Enum IntEnum StrEnum Flag IntFlag Generic Protocol ABC ABCMeta namedtuple "
    "NamedTuple TypedDict TYPE_CHECKING abstractmethod dataclass overload contextmanager metaclass Meta".split()
)

BARRED = (
    ast.AsyncFunctionDef, ast.AsyncFor, ast.AsyncWith, ast.Await, ast.Div, ast.Import, ast.TryStar, ast.MatMult,
)


def files():
    return sorted(PACKAGE.glob("*.py"))


def nodes(file, *kinds):
    return [node for node in ast.walk(ast.parse(file.read_text())) if isinstance(node, kinds)]


class LanguageTest(unittest.TestCase):
    def test_the_folder_holds_only_files_with_plain_names(self):
        for path in PACKAGE.iterdir():
            if path.name != "__pycache__":
                self.assertEqual(path.suffix, ".py")
                self.assertRegex(path.name, r"^[a-z0-9_]+\.py$")
        self.assertTrue((PACKAGE / "__init__.py").is_file())

    def test_lines_and_characters(self):
        for file in files():
            text = file.read_bytes().decode("ascii")
            self.assertTrue(all(character == "\n" or " " <= character <= "~" for character in text))
            self.assertLessEqual(len(text.splitlines()), 399)
            self.assertLessEqual(max(map(len, text.splitlines())), 120)

    def test_functions_are_short(self):
        for file in files():
            for node in nodes(file, ast.FunctionDef):
                self.assertLessEqual(node.end_lineno - node.lineno + 1, 40, node.name)

    def test_a_module_holds_only_what_it_may(self):
        for file in files():
            for at, node in enumerate(ast.parse(file.read_text()).body):
                if isinstance(node, ast.Expr):
                    self.assertEqual((at, type(node.value.value)), (0, str))
                else:
                    self.assertIsInstance(node, (ast.ImportFrom, ast.FunctionDef, ast.ClassDef, ast.Assign))

    def test_imports(self):
        for file in files():
            for node in nodes(file, ast.ImportFrom):
                names = [alias.name for alias in node.names]
                self.assertEqual((node.level, node.col_offset), (0, 0))
                if node.module in LIBRARY:
                    self.assertLessEqual(set(names), set(LIBRARY[node.module].split()))
                    continue
                self.assertRegex(node.module, r"^sumslips\.[a-z0-9_]+$")
                tree = ast.parse((PACKAGE / (node.module.split(".")[1] + ".py")).read_text())
                defined = {held.name for held in tree.body if isinstance(held, (ast.FunctionDef, ast.ClassDef))}
                defined |= {held.targets[0].id for held in tree.body if isinstance(held, ast.Assign)}
                self.assertLessEqual(set(names), defined)

    def test_no_statement_and_no_value_that_is_barred(self):
        for file in files():
            self.assertEqual(nodes(file, *BARRED), [])
            for node in nodes(file, ast.Constant):
                self.assertNotIsInstance(node.value, (float, complex))

    def test_builtins(self):
        for file in files():
            for node in nodes(file, ast.Name):
                if hasattr(builtins, node.id):
                    self.assertIn(node.id, BUILTINS)
                    self.assertIsInstance(node.ctx, ast.Load, node.id)
            for node in nodes(file, ast.FunctionDef, ast.ClassDef):
                if not node.name.startswith("__"):
                    self.assertFalse(hasattr(builtins, node.name), node.name)
            for node in nodes(file, ast.arg):
                self.assertFalse(hasattr(builtins, node.arg), node.arg)

    def test_methods(self):
        known = set()
        for kind in (str, int, list, dict, set, bytes, tuple):
            known |= set(dir(kind))
        for file in files():
            for node in nodes(file, ast.Attribute):
                if node.attr in known and node.attr != "__init__":
                    self.assertIn(node.attr, METHODS)
            for node in nodes(file, ast.FunctionDef):
                if node.name.startswith("__"):
                    self.assertIn(node.name, SPECIAL)

    def test_names_that_are_not_used(self):
        for file in files():
            tree = ast.parse(file.read_text())
            names = {node.id for node in ast.walk(tree) if isinstance(node, ast.Name)}
            names |= {node.arg for node in ast.walk(tree) if isinstance(node, ast.arg)}
            names |= {node.name for node in ast.walk(tree) if isinstance(node, (ast.FunctionDef, ast.ClassDef))}
            self.assertEqual(names & (NOWHERE | NO_NAMES), set())
            held = {node.attr for node in ast.walk(tree) if isinstance(node, ast.Attribute)}
            held |= {node.arg for node in ast.walk(tree) if isinstance(node, ast.keyword)}
            self.assertEqual(held & NOWHERE, set())
            self.assertEqual(set(re.findall(r"[A-Za-z_]+", file.read_text())) & NO_WORDS, set())
            for name in names | held:
                self.assertRegex(name, r"^(_|_?[A-Za-z][A-Za-z0-9_]*|__[a-z]+__)$")

    def test_a_name_that_is_imported_means_nothing_else(self):
        for file in files():
            taken = {alias.name for node in nodes(file, ast.ImportFrom) for alias in node.names}
            taken |= {node.name for node in nodes(file, ast.ClassDef)}
            for node in nodes(file, ast.Name):
                if not isinstance(node.ctx, ast.Load):
                    self.assertNotIn(node.id, taken)
            for node in nodes(file, ast.arg):
                self.assertNotIn(node.arg, taken)

    def test_decorators(self):
        for file in files():
            for node in nodes(file, ast.FunctionDef, ast.ClassDef):
                for held in node.decorator_list:
                    name = held.attr if isinstance(held, ast.Attribute) else held.id
                    self.assertIn(name, ("property", "setter", "staticmethod", "classmethod"))

    def test_exponents_and_strings(self):
        for file in files():
            for node in nodes(file, ast.BinOp):
                if isinstance(node.op, ast.Pow):
                    self.assertNotIsInstance(node.right, (ast.Attribute, ast.Call))
            for node in nodes(file, ast.Constant):
                if isinstance(node.value, str):
                    self.assertNotIn("%", node.value)

    def test_no_two_files_import_from_each_other(self):
        sources = {}
        for file in files():
            told = [node.module for node in nodes(file, ast.ImportFrom) if node.module not in LIBRARY]
            sources[file.stem] = {module.split(".")[1] for module in told}
        while sources:
            free = [name for name in sources if not sources[name] & set(sources)]
            self.assertNotEqual(free, [], sorted(sources))
            for name in free:
                del sources[name]


if __name__ == "__main__":
    unittest.main()
