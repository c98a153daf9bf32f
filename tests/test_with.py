"""The rows that may stand in `__exit__`, and in the methods that it calls, in the narrowest reading of the language."""

import ast
import unittest

from tests.test_language import nodes


def is_attribute(node):
    """Whether this is an attribute of a name; an attribute of an attribute is none here."""
    return isinstance(node, ast.Attribute) and isinstance(node.value, ast.Name)


def is_plain(node):
    """Whether this may be given to an attribute: a name, an attribute, a literal, or tuples, lists and sums of such."""
    if isinstance(node, (ast.Tuple, ast.List)):
        return all(is_plain(part) for part in node.elts)
    if isinstance(node, ast.BinOp):
        less = isinstance(node.op, ast.Sub) and is_integer(node.right)
        return is_plain(node.left) and is_plain(node.right) and (less or isinstance(node.op, ast.Add))
    return isinstance(node, (ast.Name, ast.Constant)) or is_attribute(node)


def is_integer(node):
    return isinstance(node, ast.Constant) and type(node.value) is int


def is_question(node):
    """Whether an `if` may ask this: for None alone, since desks have a length and a truth of their own."""
    if isinstance(node, ast.BoolOp):
        return all(is_question(part) for part in node.values)
    if isinstance(node, ast.UnaryOp):
        return isinstance(node.op, ast.Not) and is_question(node.operand)
    if not isinstance(node, ast.Compare) or not isinstance(node.ops[0], (ast.Is, ast.IsNot)):
        return False
    against_none = len(node.ops) == 1 and ast.unparse(node.comparators[0]) == "None"
    return against_none and (isinstance(node.left, ast.Name) or is_attribute(node.left))


def is_local(row):
    """Whether this row gives a local an attribute of `self`."""
    name = isinstance(row, ast.Assign) and len(row.targets) == 1 and isinstance(row.targets[0], ast.Name)
    return name and is_attribute(row.value) and row.value.value.id == "self"


def is_allowed(row):
    """Whether this row may stand more than once."""
    if isinstance(row, ast.Assign):
        return len(row.targets) == 1 and is_attribute(row.targets[0]) and is_plain(row.value)
    if isinstance(row, ast.AugAssign):
        added = isinstance(row.op, ast.Add) and isinstance(row.value, ast.Constant)
        return is_attribute(row.target) and (added or isinstance(row.op, ast.Sub) and is_integer(row.value))
    if isinstance(row, ast.If):
        return is_question(row.test)
    if isinstance(row, ast.Return):
        return row.value is None or ast.unparse(row.value) in ("None", "False")
    if isinstance(row, ast.Expr) and isinstance(row.value, ast.Call):
        changes = getattr(row.value.func, "attr", None) in ("append", "clear")
        return changes and all(is_plain(part) for part in row.value.args)
    return isinstance(row, ast.Pass)


def rows_in(block, methods):
    """All rows of a block, those within an `if` and, in the place of a call, those of the method that is called."""
    rows = []
    for row in block:
        called = row.value.func if isinstance(row, ast.Expr) and isinstance(row.value, ast.Call) else None
        if called is not None and is_attribute(called) and called.value.id == "self" and called.attr in methods:
            rows += rows_in(methods[called.attr].body, {})
            continue
        rows.append(row)
        if isinstance(row, ast.If):
            rows += rows_in(row.body, methods) + rows_in(row.orelse, methods)
    return rows


def names_in(row):
    """The names that a row reads; of an `if` those of its test, since its rows stand for themselves."""
    top = row.test if isinstance(row, ast.If) else row
    return {node.id for node in ast.walk(top) if isinstance(node, ast.Name)}


def wrong_rows(made):
    """What may not stand in `__exit__` of this class, or in a method that it calls, as text."""
    methods = {part.name: part for part in made.body if isinstance(part, ast.FunctionDef)}
    rows = rows_in(methods["__exit__"].body, methods)
    locals_given = [row for row in rows if is_local(row)]
    wrong = locals_given[1:] + [row for row in rows if not is_local(row) and not is_allowed(row)]
    wrong += [row for row in rows if names_in(row) & {"value", "trace", "told"}]
    # What may be asked is asked for None, and only there the kind may stand.
    wrong += [row for row in rows if "kind" in names_in(row) and not isinstance(row, ast.If)]
    return [ast.unparse(row) for row in wrong]


def with_rows(rows, more=()):
    """A class with these rows in `__exit__`, and these in a method `shut`."""
    text = ["class Held:", "    def __exit__(self, kind, value, trace):", *["        " + row for row in rows],
            "    def shut(self):", *["        " + row for row in more or ("pass",)]]
    return ast.parse("\n".join(text)).body[0]


class WithTest(unittest.TestCase):
    def test_the_package(self):
        seen = []
        for place, made in nodes(ast.ClassDef):
            if "__exit__" in [getattr(part, "name", None) for part in made.body]:
                seen.append(made.name)
                self.assertEqual(wrong_rows(made), [], place)
        self.assertEqual(seen, ["Trial"])

    def test_rows_that_may_stand(self):
        for rows in (["pass"], ["return None"], ["net = self.net", "net.now = 0", "net.rows = self.rows"],
                     ["self.now = self.past + (self.now, 1)", "self.depth -= 1", "self.depth += 1"],
                     ["if kind is not None and not self.shown is None:", "    self.rows.append(self.now)"],
                     ["self.rows.clear()", "return False"], ["self.depth = self.depth - 1"]):
            self.assertEqual(wrong_rows(with_rows(rows)), [], rows)
            self.assertEqual(wrong_rows(with_rows(["self.shut()"], rows)), [], rows)

    def test_rows_that_may_not_stand(self):
        for row in ("now = self.rows[0]", "self.now = self.rows[0]", "self.now = self.rows.pop()", "self.rows.pop()",
                    "self.net.now = 0", "self.now = self.net.now", "del self.rows[1:]", "self.now = -1",
                    "self.depth -= self.many", "self.now = value", "self.now = kind", "return True", "print(kind)",
                    "self.now = self.rows[:1]", "now = net", "now = 0", "self.now, self.net = self.pair", "raise kind"):
            self.assertEqual(wrong_rows(with_rows([row]))[:1], [row])
            self.assertEqual(wrong_rows(with_rows(["self.shut()"], [row]))[:1], [row])
        for question in ("kind", "not kind", "kind == None", "value is None", "self.depth == 1", "self.a.b is None"):
            rows = [f"if {question}:", "    self.now = 0"]
            self.assertNotEqual(wrong_rows(with_rows(rows)), [], question)

    def test_one_local_in_all(self):
        around = ["around = self._around", "self._now = around.now"]
        self.assertEqual(wrong_rows(with_rows(["self.shut()"], around)), [])
        self.assertEqual(wrong_rows(with_rows(["desk = self._desk", "self.shut()"], around)), around[:1])
        self.assertEqual(wrong_rows(with_rows(["desk = self._desk", *around])), around[:1])


if __name__ == "__main__":
    unittest.main()
