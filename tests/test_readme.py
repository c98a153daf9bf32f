"""The rows of the programs in README.md, run in their order: what is told behind them is so."""

import ast
import pathlib
import re
import unittest

from pileworn import errors

README = pathlib.Path(__file__).resolve().parent.parent / "README.md"
NOTHING = object()


def programs():
    return re.findall(r"^```python\n(.*?)^```", README.read_text(encoding="utf-8"), re.S | re.M)


def statements(text):
    """The pairs of a statement and what is told behind it."""
    for statement in re.split(r"\n+(?! )", text.strip()):
        told = re.search(r" # (.*)$", statement.split("\n")[0])
        yield statement, told[1] if told else ""


def value_told(told):
    """The value with which the words begin, NOTHING if they begin with none."""
    for end in [match.start() for match in re.finditer(r",|$", told)][::-1]:
        try:
            return ast.literal_eval(told[:end])
        except (ValueError, SyntaxError):
            continue
    return NOTHING


class ReadmeTest(unittest.TestCase):
    def test_programs(self):
        names, seen = {}, 0
        for text in programs():
            for statement, told in statements(text):
                with self.subTest(statement=statement):
                    if told.startswith("raises "):
                        with self.assertRaises(getattr(errors, re.match(r"raises (\w+)", told)[1])):
                            exec(statement, names)
                    elif value_told(told) is NOTHING:
                        exec(statement, names)
                    else:
                        self.assertEqual(eval(statement, names), value_told(told))
                        seen += 1
        self.assertGreater(seen, 40)


if __name__ == "__main__":
    unittest.main()
