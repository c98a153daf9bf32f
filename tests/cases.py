"""What several tests need: cases that look closely at errors, the rules of the document's examples, wrong values."""

import unittest

from pileworn.rules import Rule
from tests.values import of_all_kinds

WHEEL = Rule("plates 3 away 0", "take 1 to 2 back bottom kept")
UNDER = Rule("plates 5 away 1", "take 1 to 3 back under 1 turned", "cut 2")
SWAP = Rule("plates 4 away 0", "take 1 to 3 back under 1 turned")
NEVER = Rule("plates 3 away 0", "take 1 to 2 back top kept")
OUT = Rule("plates 4 away 2", "take 2 to 2 back bottom kept")

NO_RULES = [value for value in of_all_kinds() if not isinstance(value, Rule)] + [WHEEL.rows, WHEEL.text, [WHEEL]]
NO_INTEGERS = [value for value in of_all_kinds() if value.__class__ is not int]
NO_TUPLES = [value for value in of_all_kinds() if not isinstance(value, tuple)]


class RaisingTestCase(unittest.TestCase):
    def assert_raised(self, error, attribute, value, function, *given, **named):
        """Exactly this error is raised, with this attribute alone, and with this very value or an equal one."""
        with self.assertRaises(error) as caught:
            function(*given, **named)
        self.assertIs(caught.exception.__class__, error)
        self.assertEqual(vars(caught.exception), {attribute: value})
        self.assertIs(getattr(caught.exception, attribute).__class__, value.__class__)
