"""The rules of the language that can be seen without running the program."""

import ast
import builtins
import pathlib
import unittest

PACKAGE = pathlib.Path(__file__).resolve().parent.parent / "pileworn"

BUILTINS = set("""
    len range enumerate zip min max sum abs sorted reversed int str bool bytes list tuple dict set frozenset isinstance
    ord repr any all divmod pow getattr hasattr setattr iter next map Exception ValueError TypeError KeyError IndexError
    LookupError ZeroDivisionError ArithmeticError OverflowError RuntimeError NotImplementedError AttributeError
    StopIteration NotImplemented property staticmethod classmethod super
""".split())

METHODS = set("""
    __init__ __eq__ __repr__ __str__ __len__ __enter__ __exit__ __call__ __iter__ __lt__ __le__ __gt__ __ge__ __ne__
    __bool__ __contains__ __getitem__ __setitem__
""".split())

LIBRARY = {
    "heapq": {"heappush", "heappop", "heapify", "heapreplace", "heappushpop"},
    "math": {"gcd", "lcm", "isqrt", "comb", "perm", "factorial"},
    "itertools": {"product", "combinations", "permutations", "chain", "accumulate", "pairwise", "islice",
                  "zip_longest"},
    "collections": {"defaultdict"},
}

# What may be called as a method of a value of Python's own, without the package having such a method.
BUILTIN_METHODS = set("""
    append clear copy count endswith extend find get index insert isalnum isalpha isdigit islower isspace isupper items
    join keys ljust lower lstrip partition pop remove replace reverse rfind rjust rpartition rsplit rstrip setdefault
    split splitlines startswith strip update upper values zfill bit_length add discard
""".split())

# Words that stand in no string and as no name.
WORDS = set("""
    register mro elements open input law version_info typing typing_extensions enum Enum IntEnum StrEnum Flag IntFlag
    Generic Protocol ABC ABCMeta namedtuple NamedTuple TypedDict TYPE_CHECKING abstractmethod eval exec exit globals
    locals vars
""".split())

BARRED = (ast.AsyncFunctionDef, ast.Await, ast.Global, ast.Import, ast.Div, ast.MatMult, ast.AsyncFor, ast.AsyncWith)


def paths():
    return sorted(path for path in PACKAGE.rglob("*") if "__pycache__" not in path.parts)


def trees():
    for path in paths():
        yield path.name, ast.parse(path.read_text(encoding="utf-8"))


def nodes(kind):
    for name, tree in trees():
        for node in ast.walk(tree):
            if isinstance(node, kind):
                yield f"{name}:{getattr(node, 'lineno', 0)}", node


class FilesTest(unittest.TestCase):
    def test_files_and_their_characters(self):
        for path in paths():
            self.assertTrue(path.is_file() and path.suffix == ".py" and path.stem.isidentifier(), path)
            self.assertEqual(path.name, path.name.lower())
            data = path.read_bytes()
            self.assertTrue(all(32 <= byte <= 126 or byte == 10 for byte in data), path)

    def test_sizes(self):
        for path in paths():
            lines = path.read_text().split("\n")
            self.assertLessEqual(len(lines) - 1, 399, path)
            self.assertLessEqual(max(len(line) for line in lines), 120, path)
        for place, node in nodes(ast.FunctionDef):
            self.assertLessEqual(node.end_lineno - node.lineno + 1, 40, place)


class ModulesTest(unittest.TestCase):
    def test_module_level_holds_only_what_it_may(self):
        for name, tree in trees():
            for at, node in enumerate(tree.body):
                is_docstring = at == 0 and isinstance(node, ast.Expr) and isinstance(node.value, ast.Constant)
                plain = (ast.ImportFrom, ast.FunctionDef, ast.ClassDef, ast.Assign)
                self.assertTrue(is_docstring or isinstance(node, plain), f"{name}:{node.lineno}")

    def test_imports_name_the_file_that_defines_the_name(self):
        defined = {}
        for name, tree in trees():
            bound = [node.name for node in tree.body if isinstance(node, (ast.FunctionDef, ast.ClassDef))]
            bound += [node.targets[0].id for node in tree.body if isinstance(node, ast.Assign)]
            self.assertEqual(len(bound), len(set(bound)), name)
            defined["pileworn." + name[:-3]] = set(bound)
        for place, node in nodes(ast.ImportFrom):
            self.assertEqual((node.level, node.col_offset), (0, 0), place)
            known = defined.get(node.module, LIBRARY.get(node.module, set()))
            for alias in node.names:
                self.assertTrue(alias.name in known and alias.asname is None, (place, alias.name))

    def test_modules_need_no_later_ones(self):
        needs = {"pileworn." + name[:-3]: {
            node.module for node in tree.body if isinstance(node, ast.ImportFrom)} for name, tree in trees()}
        while needs:
            free = [name for name in needs if not needs[name] & set(needs)]
            self.assertTrue(free, needs)
            for name in free:
                del needs[name]


class WordsTest(unittest.TestCase):
    def test_no_barred_statements_and_signs(self):
        for place, node in nodes(BARRED):
            self.fail((place, node))
        for place, node in nodes(ast.ClassDef):
            self.assertEqual(node.decorator_list, [], place)
        for place, node in nodes(ast.ExceptHandler):
            self.assertIsNotNone(node.type, place)

    def test_only_allowed_builtins_which_keep_their_meaning(self):
        own = set(dir(builtins))
        for place, node in nodes(ast.Name):
            if node.id in own:
                self.assertTrue(node.id in BUILTINS and isinstance(node.ctx, ast.Load), (place, node.id))
        for place, node in nodes((ast.FunctionDef, ast.ClassDef)):
            self.assertNotIn(node.name, own, place)
        for place, node in nodes(ast.arg):
            self.assertNotIn(node.arg, own, place)

    def test_no_parameter_or_variable_has_the_name_of_a_class_or_an_import_of_its_file(self):
        for name, tree in trees():
            bound = {alias.name for node in tree.body if isinstance(node, ast.ImportFrom) for alias in node.names}
            bound |= {node.name for node in tree.body if isinstance(node, ast.ClassDef)}
            for node in ast.walk(tree):
                if isinstance(node, ast.arg):
                    self.assertNotIn(node.arg, bound, f"{name}:{node.lineno}")
                if isinstance(node, ast.Name) and isinstance(node.ctx, (ast.Store, ast.Del)):
                    self.assertNotIn(node.id, bound, f"{name}:{node.lineno}")

    def test_methods_attributes_and_properties_have_names_of_their_own(self):
        methods, properties, attributes = set(), set(), set()
        for _, node in nodes(ast.ClassDef):
            for part in node.body:
                if isinstance(part, ast.FunctionDef):
                    told = [ast.unparse(decorator) for decorator in part.decorator_list]
                    (properties if told == ["property"] else methods).add(part.name)
        for _, node in nodes(ast.Attribute):
            if isinstance(node.ctx, ast.Store):
                attributes.add(node.attr)
        methods -= METHODS
        self.assertEqual(attributes & (methods | properties), set())
        self.assertEqual((methods | properties | attributes) & (BUILTIN_METHODS - {"index"}), set())
        for place, node in nodes(ast.Attribute):
            self.assertIn(node.attr, methods | properties | attributes | BUILTIN_METHODS | METHODS, place)
        for place, node in nodes(ast.Call):
            if isinstance(node.func, ast.Attribute):
                self.assertIn(node.func.attr, methods | BUILTIN_METHODS | METHODS, place)

    def test_no_barred_words(self):
        for place, node in nodes((ast.Name, ast.Attribute, ast.arg, ast.FunctionDef, ast.ClassDef)):
            for field in ("id", "attr", "arg", "name"):
                self.assertNotIn(getattr(node, field, None), WORDS, place)

    def test_no_generators_and_no_errors_of_python_caught(self):
        for place, node in nodes((ast.Yield, ast.YieldFrom, ast.GeneratorExp)):
            self.fail((place, node))
        own = {node.name for _, tree in trees() for node in tree.body if isinstance(node, ast.ClassDef)}
        for place, node in nodes(ast.ExceptHandler):
            self.assertIn(ast.unparse(node.type), own, place)

    def test_sets_are_only_asked(self):
        for name, tree in trees():
            above = {child: node for node in ast.walk(tree) for child in ast.iter_child_nodes(node)}
            for node in ast.walk(tree):
                if isinstance(node, ast.Call) and isinstance(node.func, ast.Name) and node.func.id == "set":
                    around = above[node]
                    asked = isinstance(around, ast.Assign) or ast.unparse(around.func) in ("sorted", "len")
                    self.assertTrue(asked, f"{name}:{node.lineno}")

    def test_names_with_two_underscores(self):
        for place, node in nodes(ast.FunctionDef):
            self.assertTrue(not node.name.startswith("__") or node.name in METHODS, (place, node.name))
        for place, node in nodes(ast.Attribute):
            self.assertTrue(not node.attr.startswith("__") or node.attr in METHODS, (place, node.attr))

    def test_no_floats_and_no_barred_strings(self):
        for place, node in nodes(ast.Constant):
            self.assertNotIsInstance(node.value, (float, complex), place)
            if isinstance(node.value, str):
                self.assertNotIn("%", node.value, place)


if __name__ == "__main__":
    unittest.main()
