import unittest

from pileworn.kinds import integer_within, is_integer
from tests.values import of_all_kinds


class KindsTest(unittest.TestCase):
    def test_integers_at_the_edges(self):
        told = [integer_within(value, 2, 5) for value in range(0, 8)]
        self.assertEqual(told, [False, False, True, True, True, True, False, False])
        self.assertIs(integer_within(10 ** 39, 0, 10 ** 39), True)
        self.assertIs(integer_within(-1, 0, 5), False)

    def test_true_and_false_are_no_integers(self):
        self.assertIs(integer_within(True, 0, 5), False)
        self.assertIs(integer_within(False, 0, 5), False)

    def test_values_of_other_kinds(self):
        for value in of_all_kinds():
            self.assertIs(is_integer(value), value.__class__ is int, value)
            expected = value.__class__ is int and 0 <= value <= 5
            self.assertIs(integer_within(value, 0, 5), expected, value)


if __name__ == "__main__":
    unittest.main()
