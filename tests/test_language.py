"""The rules of the language that can be seen without running the program."""

import ast
import builtins
import pathlib
import unittest

PACKAGE = pathlib.Path(__file__).resolve().parent.parent / "pileworn"

BUILTINS = set("""
    len range enumerate zip min max sum abs sorted reversed int str bool bytes list tuple dict set frozenset isinstance
    ord repr any all divmod pow getattr hasattr setattr iter next map Exception ValueError TypeError KeyError IndexError
    LookupError ZeroDivisionError ArithmeticError OverflowError RuntimeError NotImplementedError AttributeError
    StopIteration NotImplemented property staticmethod classmethod super
""".split())

METHODS = set("""
    __init__ __eq__ __repr__ __str__ __len__ __enter__ __exit__ __call__ __iter__ __lt__ __le__ __gt__ __ge__ __ne__
    __bool__ __contains__ __getitem__ __setitem__
""".split())

LIBRARY = {
    "heapq": {"heappush", "heappop", "heapify", "heapreplace", "heappushpop"},
    "math": {"gcd", "lcm", "isqrt", "comb", "perm", "factorial"},
    "itertools": {"product", "combinations", "permutations", "chain", "accumulate", "pairwise", "islice",
                  "zip_longest"},
    "collections": {"defaultdict"},
}

BARRED = (ast.AsyncFunctionDef, ast.Await, ast.Global, ast.Import, ast.Div, ast.MatMult, ast.AsyncFor, ast.AsyncWith)


def paths():
    return sorted(path for path in PACKAGE.rglob("*") if "__pycache__" not in path.parts)


def trees():
    for path in paths():
        yield path.name, ast.parse(path.read_text(encoding="utf-8"))


def nodes(kind):
    for name, tree in trees():
        for node in ast.walk(tree):
            if isinstance(node, kind):
                yield f"{name}:{getattr(node, 'lineno', 0)}", node


class FilesTest(unittest.TestCase):
    def test_files_and_their_characters(self):
        for path in paths():
            self.assertTrue(path.is_file() and path.suffix == ".py" and path.stem.isidentifier(), path)
            self.assertEqual(path.name, path.name.lower())
            data = path.read_bytes()
            self.assertTrue(all(32 <= byte <= 126 or byte == 10 for byte in data), path)

    def test_sizes(self):
        for path in paths():
            lines = path.read_text().split("\n")
            self.assertLessEqual(len(lines) - 1, 399, path)
            self.assertLessEqual(max(len(line) for line in lines), 120, path)
        for place, node in nodes(ast.FunctionDef):
            self.assertLessEqual(node.end_lineno - node.lineno + 1, 40, place)


class ModulesTest(unittest.TestCase):
    def test_module_level_holds_only_what_it_may(self):
        for name, tree in trees():
            for at, node in enumerate(tree.body):
                is_docstring = at == 0 and isinstance(node, ast.Expr) and isinstance(node.value, ast.Constant)
                plain = (ast.ImportFrom, ast.FunctionDef, ast.ClassDef, ast.Assign)
                self.assertTrue(is_docstring or isinstance(node, plain), f"{name}:{node.lineno}")

    def test_imports_name_the_file_that_defines_the_name(self):
        defined = {}
        for name, tree in trees():
            bound = [node.name for node in tree.body if isinstance(node, (ast.FunctionDef, ast.ClassDef))]
            bound += [node.targets[0].id for node in tree.body if isinstance(node, ast.Assign)]
            self.assertEqual(len(bound), len(set(bound)), name)
            defined["pileworn." + name[:-3]] = set(bound)
        for place, node in nodes(ast.ImportFrom):
            self.assertEqual((node.level, node.col_offset), (0, 0), place)
            known = defined.get(node.module, LIBRARY.get(node.module, set()))
            for alias in node.names:
                self.assertTrue(alias.name in known and alias.asname is None, (place, alias.name))

    def test_modules_need_no_later_ones(self):
        needs = {"pileworn." + name[:-3]: {
            node.module for node in tree.body if isinstance(node, ast.ImportFrom)} for name, tree in trees()}
        while needs:
            free = [name for name in needs if not needs[name] & set(needs)]
            self.assertTrue(free, needs)
            for name in free:
                del needs[name]


class WordsTest(unittest.TestCase):
    def test_no_barred_statements_and_signs(self):
        for place, node in nodes(BARRED):
            self.fail((place, node))
        for place, node in nodes(ast.ClassDef):
            self.assertEqual(node.decorator_list, [], place)
        for place, node in nodes(ast.ExceptHandler):
            self.assertIsNotNone(node.type, place)

    def test_only_allowed_builtins_which_keep_their_meaning(self):
        own = set(dir(builtins))
        for place, node in nodes(ast.Name):
            if node.id in own:
                self.assertTrue(node.id in BUILTINS and isinstance(node.ctx, ast.Load), (place, node.id))
        for place, node in nodes((ast.FunctionDef, ast.ClassDef)):
            self.assertNotIn(node.name, own, place)
        for place, node in nodes(ast.arg):
            self.assertNotIn(node.arg, own, place)

    def test_names_with_two_underscores(self):
        for place, node in nodes(ast.FunctionDef):
            self.assertTrue(not node.name.startswith("__") or node.name in METHODS, (place, node.name))
        for place, node in nodes(ast.Attribute):
            self.assertTrue(not node.attr.startswith("__") or node.attr in METHODS, (place, node.attr))

    def test_no_floats_and_no_barred_strings(self):
        for place, node in nodes(ast.Constant):
            self.assertNotIsInstance(node.value, (float, complex), place)
            if isinstance(node.value, str):
                self.assertNotIn("%", node.value, place)


if __name__ == "__main__":
    unittest.main()
