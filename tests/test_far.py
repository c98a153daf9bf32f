import itertools
import unittest

from pileworn.errors import InvalidChoices, InvalidNumber, NotARule, NotRound
from pileworn.far import led_rounds, uses_rounds
from pileworn.piles import led, uses
from pileworn.rules import Rule
from tests.cases import NEVER, SWAP, UNDER, WHEEL, RaisingTestCase
from tests.values import of_all_kinds

FOUR = Rule("plates 4 away 0", "take 0 to 4 back under 2 turned", "turn", "take 1 to 2 back bottom kept", "cut 3")
TEN = Rule("plates 10 away 0", "take 0 to 6 back bottom kept", "take 1 to 5 back under 3 turned", "cut 7")
RULES = [WHEEL, SWAP, NEVER, FOUR, Rule("plates 2 away 0", "rest"), Rule("plates 3 away 0", "turn", "cut 1"),
         Rule("plates 5 away 0", "take 2 to 6 back top turned", "take 1 to 1 back bottom kept")]

# After so many rounds every arrangement of at most ten plates has come back: a multiple of all numbers up to ten.
AGAIN = 2520


def some_choices(rule):
    """Choices for no round, one and two rounds of the rows of days."""
    for rounds in range(3):
        days = []
        for row in rule.rows[1:] * rounds:
            words = row.split()
            few = words[0] == "take"
            days.append(range(int(words[1]), min(int(words[3]), rule.plates) + 1) if few else range(1))
        yield from itertools.islice(itertools.product(*days), 0, None, 7 if len(days) > 4 else 1)


class ExamplesTest(RaisingTestCase):
    def test_examples_of_the_document(self):
        wheel = Rule("plates 3 away 0", "take 1 to 2 back bottom kept")
        swap = Rule("plates 4 away 0", "take 1 to 3 back under 1 turned")
        self.assertEqual(
            [led_rounds(wheel, (2,), 10 ** 30), uses_rounds(wheel, (2, 1), 10 ** 30), led_rounds(swap, (3, 1), 5),
             uses_rounds(swap, (3, 1), 2), uses_rounds(swap, (), 7)],
            [(2, 0, 1),
             (1000000000000000000000000000000, 1000000000000000000000000000000, 1000000000000000000000000000000),
             (2, 3, 1, 0), (2, 2, 2, 2), (0, 0, 0, 0)])


class FewRoundsTest(RaisingTestCase):
    def test_beside_the_choices_written_out(self):
        for rule in RULES:
            for choices in some_choices(rule):
                for rounds in (0, 1, 2, 3, 5, 8):
                    self.assertEqual(led_rounds(rule, choices, rounds), led(rule, choices * rounds))
                    self.assertEqual(uses_rounds(rule, choices, rounds), uses(rule, choices * rounds))

    def test_ten_plates(self):
        for choices in ((6, 1, 0), (0, 5, 0), (3, 2, 0, 5, 4, 0), (1, 1, 0, 6, 3, 0)):
            for rounds in (1, 7, 29, 30, 31):
                self.assertEqual(led_rounds(TEN, choices, rounds), led(TEN, choices * rounds))
                self.assertEqual(uses_rounds(TEN, choices, rounds), uses(TEN, choices * rounds))

    def test_no_rounds_and_no_choices(self):
        for rule in RULES + [TEN]:
            start, none = tuple(range(rule.plates)), (0,) * rule.plates
            for rounds in (0, 1, 10 ** 35):
                self.assertEqual((led_rounds(rule, (), rounds), uses_rounds(rule, (), rounds)), (start, none))
        for choices in ((2,), (1, 2)):
            self.assertEqual((led_rounds(WHEEL, choices, 0), uses_rounds(WHEEL, choices, 0)), ((0, 1, 2), (0, 0, 0)))

    def test_kinds_of_values_and_names(self):
        self.assertIs(led_rounds(WHEEL, (2,), 4).__class__, tuple)
        self.assertIs(uses_rounds(WHEEL, (2,), 4).__class__, tuple)
        self.assertEqual(led_rounds(rounds=4, choices=(2,), rule=WHEEL), led(WHEEL, (2,) * 4))
        self.assertEqual(uses_rounds(rounds=4, choices=(2,), rule=WHEEL), uses(WHEEL, (2,) * 4))


class ManyRoundsTest(RaisingTestCase):
    def test_great_numbers_beside_sums(self):
        for rule in RULES + [TEN]:
            for choices in itertools.islice(some_choices(rule), 0, None, 5):
                whole = uses_rounds(rule, choices, AGAIN)
                for many in (10 ** 30, 10 ** 39 // AGAIN - 1):
                    for left in (0, 1, 6):
                        rounds = many * AGAIN + left
                        begun = uses_rounds(rule, choices, left)
                        self.assertEqual(led_rounds(rule, choices, rounds), led(rule, choices * left))
                        self.assertEqual(uses_rounds(rule, choices, rounds),
                                         tuple(many * part + more for part, more in zip(whole, begun)))
                        self.assertEqual(sum(uses_rounds(rule, choices, rounds)), rounds * sum(choices))

    def test_one_round_more(self):
        for choices in ((6, 1, 0), (3, 2, 0, 5, 4, 0)):
            for rounds in (10 ** 30, 10 ** 39 + 77):
                # The standing of one round follows that of the others.
                before, one = led_rounds(TEN, choices, rounds), led(TEN, choices)
                self.assertEqual(led_rounds(TEN, choices, rounds + 1), tuple(before[place] for place in one))
                counts = uses(TEN, choices)
                grown = list(uses_rounds(TEN, choices, rounds))
                for place in range(10):
                    grown[before[place]] += counts[place]
                self.assertEqual(uses_rounds(TEN, choices, rounds + 1), tuple(grown))

    def test_worked_out_by_hand(self):
        # Each round puts plate 0 under 1: both are used every other day.
        rule = Rule("plates 3 away 0", "take 1 to 1 back under 1 kept")
        self.assertEqual(uses_rounds(rule, (1,), 10 ** 30 + 1), (5 * 10 ** 29 + 1, 5 * 10 ** 29, 0))
        self.assertEqual(led_rounds(rule, (1,), 10 ** 30 + 1), (1, 0, 2))
        self.assertEqual(uses_rounds(rule, (1, 1), 10 ** 30), (10 ** 30, 10 ** 30, 0))
        # Four plates go round, one each day.
        rule = Rule("plates 4 away 0", "take 1 to 1 back bottom kept")
        self.assertEqual(uses_rounds(rule, (1,), 4 * 10 ** 30 + 3), (10 ** 30 + 1, 10 ** 30 + 1, 10 ** 30 + 1, 10 ** 30))
        self.assertEqual(led_rounds(rule, (1,), 4 * 10 ** 30 + 3), (3, 0, 1, 2))
        self.assertEqual(uses_rounds(rule, (1, 1, 1, 1), 10 ** 33), (10 ** 33,) * 4)

    def test_numbers_that_were_returned_may_be_greater_still(self):
        rounds = uses_rounds(TEN, (6, 1, 0), 10 ** 40)[0] * 10 ** 40
        self.assertEqual(sum(uses_rounds(WHEEL, (2,), rounds)), 2 * rounds)


class ErrorsTest(RaisingTestCase):
    def assert_wrong(self, error, attribute, value, *given):
        for function in (led_rounds, uses_rounds):
            self.assert_raised(error, attribute, value, function, *given)
            self.assert_raised(error, attribute, value, function, **dict(zip(("rule", "choices", "rounds"), given)))

    def test_no_rule(self):
        for value in of_all_kinds():
            if not isinstance(value, Rule):
                self.assert_wrong(NotARule, "given", value, value, (2,), 1)
                self.assert_wrong(NotARule, "given", value, value, None, None)

    def test_no_choices(self):
        for value in of_all_kinds():
            if not isinstance(value, tuple):
                self.assert_wrong(InvalidChoices, "index", None, WHEEL, value, 1)
                self.assert_wrong(InvalidChoices, "index", None, UNDER, value, None)
                self.assert_wrong(InvalidChoices, "index", 1, WHEEL, (2, (value,)), -1)
        self.assert_wrong(InvalidChoices, "index", 1, SWAP, (3, 4, 0), 5)
        self.assert_wrong(InvalidChoices, "index", 0, UNDER, (0,), None)

    def test_no_number_of_rounds(self):
        for value in of_all_kinds() + [-1, -10 ** 39]:
            if value.__class__ is not int or value < 0:
                for rule, choices in ((WHEEL, (2,)), (WHEEL, ()), (FOUR, (4,)), (UNDER, (3, 0)), (UNDER, ())):
                    self.assert_wrong(InvalidNumber, "given", value, rule, choices, value)

    def test_no_round(self):
        for choices in ((4,), (4, 0), (4, 0, 2), (4, 0, 2, 0, 1)):
            for rounds in (0, 1, 10 ** 30):
                self.assert_wrong(NotRound, "given", choices, FOUR, choices, rounds)
        for choices in ((), (3,), (3, 0)):
            self.assert_wrong(NotRound, "given", choices, UNDER, choices, 1)
        two = Rule("plates 3 away 2", "rest")
        for choices in ((), (0,)):
            self.assert_wrong(NotRound, "given", choices, two, choices, 0)
        self.assertEqual(led_rounds(FOUR, (4, 0, 2, 0), 1), led(FOUR, (4, 0, 2, 0)))


if __name__ == "__main__":
    unittest.main()
