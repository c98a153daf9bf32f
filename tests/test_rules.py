import unittest
import unittest.mock

from pileworn.errors import InvalidNumber, InvalidRows, InvalidText
from pileworn.rules import Rule
from tests.cases import RaisingTestCase
from tests.values import of_all_kinds

FIRST = "plates 3 away 0"
TAKE = "take 1 to 2 back bottom kept"
WHERES = ["top", "bottom"] + [f"under {many}" for many in range(1, 10)]
TAKES = [
    f"take {least} to {most} back {where} {order}"
    for least in range(7) for most in range(least, 7) for where in WHERES for order in ("kept", "turned")
]
FIRSTS = [f"plates {plates} away {away}" for plates in range(2, 11) for away in range(3)]
DAYS = TAKES + ["turn", "rest"] + [f"cut {many}" for many in range(1, 10)]

# Digits that Python takes for digits, or for decimals, too: superscript, Arabic, Devanagari, full width.
FOREIGN = {"1": ["\u00b9", "\u0661", "\u0967", "\uff11"], "2": ["\u00b2", "\u0662", "\u0968", "\uff12"]}


def spaced_wrongly(row):
    """The row with spaces or newlines more, less or elsewhere."""
    wrong = [" " + row, row + " ", row + "\n", "\n" + row, row + "\t", row + "\r"]
    for at in range(len(row)):
        if row[at] == " ":
            for between in ("", "  ", "\n", "\t", " \n", "\n ", "_", "\u00a0"):
                wrong.append(row[:at] + between + row[at + 1:])
    return wrong


def with_words_wrong(row):
    """The row with each of its words left out, doubled, or in the place of another kind of word."""
    words = row.split(" ")
    wrong = [row.upper(), row.title(), row + " rest", row + " 1", "rest " + row]
    for at in range(len(words)):
        wrong.append(" ".join(words[:at] + words[at + 1:]))
        wrong.append(" ".join(words[:at] + [words[at]] + words[at:]))
        for word in ("x", "", "plate", "takes", "Top", "under", "lifted", words[at] + "s", words[at][:-1]):
            wrong.append(" ".join(words[:at] + [word] + words[at + 1:]))
    return [other for other in wrong if other != row]


def with_numbers_wrong(form):
    """The form, in which `#` stands for a number 1, with this number written in ways that are none."""
    wrong = ["01", "001", "+1", "-1", "1.0", "1_0", "0x1", "0b1", "one", "1e0", "", " 1", "1 ", "1,", "--1", "10" * 20]
    return [form.replace("#", number) for number in wrong + FOREIGN["1"]]


class RuleTestCase(RaisingTestCase):
    def assert_no_first(self, row):
        self.assert_raised(InvalidRows, "index", 0, Rule, row, TAKE)

    def assert_no_day(self, row):
        self.assert_raised(InvalidRows, "index", 1, Rule, FIRST, row)
        self.assert_raised(InvalidRows, "index", 6, Rule, FIRST, TAKE, "rest", "turn", "cut 9", "rest", row)


class ExamplesTest(RuleTestCase):
    def test_examples_of_the_document(self):
        wheel = Rule("plates 3 away 0", "take 1 to 2 back bottom kept")
        self.assertEqual(
            [wheel.plates, wheel.away, len(wheel), repr(wheel), Rule.read(str(wheel)) == wheel,
             wheel.with_row(0, "plates 9 away 2").plates],
            [3, 0, 1, 'Rule of 1 days', True, 9])
        with self.assertRaises(InvalidRows) as caught:
            Rule("plates 3 away 0", "take 2 to 1 back top kept")
        self.assertEqual(caught.exception.index, 1)


class FirstRowTest(RuleTestCase):
    def test_all_first_rows(self):
        told = [(Rule(row, "rest").plates, Rule(row, "rest").away) for row in FIRSTS]
        self.assertEqual(told, [(plates, away) for plates in range(2, 11) for away in range(3)])

    def test_numbers_beyond_the_edges(self):
        for plates in (0, 1, 11, 12, 100, -2, 10 ** 39):
            self.assert_no_first(f"plates {plates} away 0")
        for away in (3, 4, 10, -1, 10 ** 39):
            self.assert_no_first(f"plates 3 away {away}")

    def test_numbers_written_wrongly(self):
        for row in with_numbers_wrong("plates 3 away #"):
            self.assert_no_first(row)
        for plates in ["02", "010", "+2", "-2", " 2", "2_0", "two", "1" + FOREIGN["1"][1]] + FOREIGN["2"]:
            self.assert_no_first(f"plates {plates} away 0")
        for away in ("00", "-0", "+0", "", "0 0"):
            self.assert_no_first(f"plates 3 away {away}")

    def test_words_and_spaces(self):
        for row in ("plates 3 away 0", "plates 10 away 2"):
            for wrong in spaced_wrongly(row) + with_words_wrong(row):
                self.assert_no_first(wrong)
        for wrong in ("", "plates", "plates 3", "away 0 plates 3", "plates 3 away 0 plates 3 away 0"):
            self.assert_no_first(wrong)

    def test_rows_of_days_are_none_in_its_place(self):
        for row in DAYS:
            self.assert_no_first(row)

    def test_values_of_other_kinds(self):
        for value in of_all_kinds() + [("plates 3 away 0",), b"plates 3 away 0", ["plates", 3, "away", 0]]:
            self.assert_no_first(value)


class DayRowTest(RuleTestCase):
    def test_all_rows_of_days(self):
        self.assertEqual(len(DAYS), 28 * 11 * 2 + 2 + 9)
        for row in DAYS:
            self.assertEqual(Rule(FIRST, row).rows, (FIRST, row))
            self.assertEqual(Rule(FIRST, "rest", row).rows, (FIRST, "rest", row))

    def test_all_numbers_to_take(self):
        for least in range(-1, 9):
            for most in range(-1, 9):
                row = f"take {least} to {most} back top kept"
                if not 0 <= least <= most <= 6:
                    self.assert_no_day(row)

    def test_numbers_beyond_the_edges(self):
        for depth in (0, 10, 11, 99, -1, 10 ** 39):
            self.assert_no_day(f"cut {depth}")
            self.assert_no_day(f"take 1 to 2 back under {depth} kept")
            self.assert_no_day(f"take 1 to 2 back under {depth} turned")
        for many in (10, 60, 66, 10 ** 39):
            self.assert_no_day(f"take {many} to {many} back top kept")
            self.assert_no_day(f"take 0 to {many} back top kept")

    def test_numbers_written_wrongly(self):
        forms = ["cut #", "take # to 2 back top kept", "take 1 to # back bottom turned",
                 "take 0 to 6 back under # kept", "take 0 to 6 back under # turned"]
        for form in forms:
            self.assertEqual(len(Rule(FIRST, form.replace("#", "1"))), 1)
            for row in with_numbers_wrong(form):
                self.assert_no_day(row)
        for zero in ("00", "+0", "-0", ""):
            self.assert_no_day(f"take {zero} to 2 back top kept")
            self.assert_no_day(f"take 0 to {zero} back top kept")

    def test_words_and_spaces(self):
        rows = ["turn", "rest", "cut 9", "take 0 to 6 back top kept", "take 6 to 6 back bottom turned",
                "take 0 to 0 back under 9 kept", "take 1 to 2 back under 1 turned"]
        for row in rows:
            for wrong in spaced_wrongly(row) + with_words_wrong(row):
                self.assert_no_day(wrong)

    def test_places_and_orders_mixed_up(self):
        for ending in ("kept", "turned", "top", "bottom", "under", "under 1", "kept top", "top 1 kept", "1 top kept",
                       "bottom 1 kept", "under top kept", "under kept", "under 1 2 kept", "top bottom kept",
                       "top kept turned", "top Kept", "middle kept", "top turn", "top rest", "top under 1 kept", "",
                       "top top", "top bottom", "bottom top", "kept kept", "under 1 top", "under 1 under", "under 1 1"):
            self.assert_no_day(f"take 1 to 2 back {ending}")
        for row in ("", " ", "\n", "cut", "cut 1 2", "cut cut", "turn 1", "rest 1", "turn turn", "turn rest", "turned",
                    "take", "take 1", "take 1 to 2", "take 1 to 2 back", "take 1 2 back top kept"):
            self.assert_no_day(row)

    def test_first_rows_are_none_in_its_place(self):
        for row in FIRSTS:
            self.assert_no_day(row)

    def test_two_rows_in_one(self):
        self.assert_no_day("rest\nrest")
        self.assert_no_day("turn\nturn")
        self.assert_no_day(TAKE + "\n" + TAKE)
        self.assert_no_first(FIRST + "\n" + TAKE)

    def test_values_of_other_kinds(self):
        for value in of_all_kinds() + [("rest",), ["turn"], b"turn", ("cut", 1), ["cut", "1"]]:
            self.assert_no_day(value)


class NumberOfRowsTest(RuleTestCase):
    def test_two_to_seven_rows(self):
        for many in range(1, 7):
            self.assertEqual(len(Rule(FIRST, *["rest"] * many)), many)

    def test_none_one_and_eight_rows(self):
        self.assert_raised(InvalidRows, "index", None, Rule)
        for first in [FIRST, "rest", TAKE] + of_all_kinds():
            self.assert_raised(InvalidRows, "index", None, Rule, first)
        for many in (7, 8, 20):
            self.assert_raised(InvalidRows, "index", None, Rule, FIRST, *["rest"] * many)
            self.assert_raised(InvalidRows, "index", None, Rule, *[None] * (many + 1))

    def test_first_wrong_row_is_told(self):
        rows = [FIRST, TAKE, "rest", "turn", "cut 1", "cut 9", "rest"]
        for first in range(7):
            for second in range(first, 7):
                wrong = list(rows)
                wrong[first] = wrong[second] = "no row"
                self.assert_raised(InvalidRows, "index", first, Rule, *wrong)
        self.assert_raised(InvalidRows, "index", 0, Rule, TAKE, FIRST)
        self.assert_raised(InvalidRows, "index", 1, Rule, FIRST, FIRST)
        self.assert_raised(InvalidRows, "index", 0, Rule, TAKE, TAKE)

    def test_rows_as_one_value_are_one_row(self):
        self.assert_raised(InvalidRows, "index", None, Rule, (FIRST, TAKE))
        self.assert_raised(InvalidRows, "index", None, Rule, FIRST + "\n" + TAKE)


class ReadTest(RuleTestCase):
    def test_lines_are_rows(self):
        for rows in ((FIRST, TAKE), ("plates 10 away 2", "rest", "turn", "cut 9", "rest", TAKE, TAKE)):
            for rule in (Rule.read("\n".join(rows)), Rule.read(text="\n".join(rows))):
                self.assertIs(rule.__class__, Rule)
                self.assertEqual(rule.rows, rows)
                self.assertEqual(rule, Rule(*rows))

    def test_all_rows_are_read_as_they_are_made(self):
        for row in DAYS:
            self.assertEqual(Rule.read(f"{FIRST}\n{row}").rows, (FIRST, row))

    def test_texts_that_are_no_rule(self):
        text = FIRST + "\n" + TAKE
        for wrong in ("", "\n", FIRST, TAKE, FIRST + "\n", text + "\n", "\n" + text, text + "\n\n", text + " ",
                      FIRST + "\n\n" + TAKE, FIRST + " \n" + TAKE, FIRST + "\n " + TAKE, FIRST + "\r\n" + TAKE,
                      FIRST + "\r" + TAKE, FIRST + "\x0b" + TAKE, FIRST + "\u2028" + TAKE, FIRST + " " + TAKE,
                      TAKE + "\n" + FIRST, TAKE + "\n" + TAKE, text + "\n" + FIRST, FIRST + "\n" + text,
                      FIRST + "\nno row", "plates 1 away 0\nrest", FIRST + "\ncut 0", FIRST + "\nREST",
                      FIRST + "\nrest" * 7, FIRST + "\nrest" * 300):
            self.assert_raised(InvalidText, "given", wrong, Rule.read, wrong)

    def test_values_of_other_kinds(self):
        text = FIRST + "\n" + TAKE
        for value in of_all_kinds() + [text.encode(), (text,), [text], (FIRST, TAKE), [FIRST, TAKE], Rule(FIRST, TAKE)]:
            with self.assertRaises(InvalidText) as caught:
                Rule.read(value)
            self.assertIs(caught.exception.__class__, InvalidText)
            self.assertIs(caught.exception.given, value)


class TellingTest(RuleTestCase):
    def test_properties_and_strings(self):
        rule = Rule("plates 10 away 1", TAKE, "turn", "cut 4")
        self.assertEqual(rule.rows, ("plates 10 away 1", TAKE, "turn", "cut 4"))
        self.assertEqual(rule.text, "plates 10 away 1\ntake 1 to 2 back bottom kept\nturn\ncut 4")
        self.assertEqual((rule.plates, rule.away, len(rule)), (10, 1, 3))
        self.assertEqual((str(rule), repr(rule)), (rule.text, "Rule of 3 days"))
        self.assertEqual([value.__class__ for value in (rule.rows, rule.text, rule.plates, rule.away)],
                         [tuple, str, int, int])

    def test_representation_for_all_numbers(self):
        told = [repr(Rule(FIRST, *["turn"] * many)) for many in range(1, 7)]
        self.assertEqual(told, [f"Rule of {many} days" for many in range(1, 7)])

    def test_properties_are_not_assigned(self):
        rule = Rule(FIRST, TAKE)
        for name in ("rows", "text", "plates", "away"):
            with self.assertRaises(AttributeError):
                setattr(rule, name, 1)
        self.assertEqual(rule.rows, (FIRST, TAKE))

    def test_a_rule_is_true(self):
        for many in range(1, 7):
            self.assertIs(bool(Rule(FIRST, *["rest"] * many)), True)

    def test_what_the_interface_lists_is_defined_in_the_class(self):
        for name in ("read", "rows", "text", "plates", "away", "with_row", "__len__", "__eq__", "__str__", "__repr__"):
            self.assertIn(name, vars(Rule))
        self.assertEqual(Rule.__module__, "pileworn.rules")


class EqualityTest(RuleTestCase):
    def test_rules_with_the_same_rows(self):
        one, other = Rule(FIRST, TAKE, "rest"), Rule.read(f"{FIRST}\n{TAKE}\nrest")
        self.assertIs(one == other, True)
        self.assertIs(one != other, False)
        self.assertIs(one == one, True)
        self.assertIs(one != one, False)

    def test_rules_with_other_rows(self):
        one = Rule(FIRST, TAKE)
        for other in (Rule(FIRST, TAKE, TAKE), Rule("plates 4 away 0", TAKE), Rule("plates 3 away 1", TAKE),
                      Rule(FIRST, "rest"), Rule(FIRST, "take 1 to 2 back bottom turned"), Rule(FIRST, TAKE, "rest")):
            self.assertEqual([one == other, other == one, one != other, other != one], [False, False, True, True])
        # Both cuts do nothing to three plates, but the rows are not the same.
        self.assertIs(Rule(FIRST, "cut 3") == Rule(FIRST, "cut 4"), False)
        self.assertIs(Rule(FIRST, "rest", "turn") == Rule(FIRST, "turn", "rest"), False)

    def test_a_rule_equals_no_value_of_another_class(self):
        rule = Rule(FIRST, TAKE)
        for value in of_all_kinds() + [rule.rows, list(rule.rows), rule.text, rule.text.encode(), repr(rule)]:
            if not isinstance(value, Rule):
                told = [rule == value, value == rule, rule != value, value != rule]
                self.assertEqual(told, [False, False, True, True])

    def test_not_even_one_that_equals_everything(self):
        self.assertIs(Rule(FIRST, TAKE) == unittest.mock.ANY, False)
        self.assertIs(Rule(FIRST, TAKE) != unittest.mock.ANY, True)


class WithRowTest(RuleTestCase):
    def setUp(self):
        self.rows = ("plates 5 away 1", TAKE, "cut 2", "rest")
        self.rule = Rule(*self.rows)

    def test_every_row_by_position_and_by_name(self):
        for index, row in ((0, "plates 9 away 2"), (1, "turn"), (2, TAKE), (3, "take 0 to 6 back under 9 turned")):
            expected = self.rows[:index] + (row,) + self.rows[index + 1:]
            for other in (self.rule.with_row(index, row), self.rule.with_row(index, row=row),
                          self.rule.with_row(row=row, index=index)):
                self.assertIs(other.__class__, Rule)
                self.assertEqual(other.rows, expected)
                self.assertEqual(other, Rule(*expected))
                self.assertEqual(other.text, "\n".join(expected))
                self.assertEqual(len(other), 3)
            self.assertEqual(self.rule.rows, self.rows)
        self.assertEqual((self.rule.plates, self.rule.away, self.rule.text), (5, 1, "\n".join(self.rows)))

    def test_plates_and_days_away_follow_the_first_row(self):
        other = self.rule.with_row(0, "plates 10 away 0")
        self.assertEqual((other.plates, other.away), (10, 0))
        self.assertEqual((other.with_row(1, "rest").plates, other.with_row(1, "rest").away), (10, 0))

    def test_the_same_row_gives_an_equal_rule(self):
        for index in range(4):
            self.assertEqual(self.rule.with_row(index, self.rows[index]), self.rule)

    def test_no_index_of_a_row(self):
        for index in (-1, -4, -5, 4, 5, 10 ** 39, -10 ** 39):
            self.assert_raised(InvalidNumber, "given", index, self.rule.with_row, index, "rest")
        self.assert_raised(InvalidNumber, "given", 2, Rule(FIRST, TAKE).with_row, 2, "rest")
        self.assertEqual(Rule(FIRST, *["rest"] * 6).with_row(6, "turn").rows[6], "turn")

    def test_indexes_of_other_kinds(self):
        for index in of_all_kinds():
            if index.__class__ is not int:
                for row in ("rest", "plates 3 away 0", None):
                    with self.assertRaises(InvalidNumber) as caught:
                        self.rule.with_row(index, row)
                    self.assertIs(caught.exception.given, index)

    def test_no_row_in_its_place(self):
        for index in range(1, 4):
            for row in of_all_kinds() + [FIRST, "rest ", "rest\n", "cut 0", "take 2 to 1 back top kept", "turn\nrest"]:
                self.assert_raised(InvalidRows, "index", index, self.rule.with_row, index, row)
                self.assert_raised(InvalidRows, "index", index, self.rule.with_row, row=row, index=index)
        for row in of_all_kinds() + [TAKE, "rest", "turn", "cut 1", "plates 11 away 0", "plates 3 away 3"]:
            self.assert_raised(InvalidRows, "index", 0, self.rule.with_row, 0, row)
        self.assertEqual(self.rule.rows, self.rows)

    def test_the_index_is_looked_at_first(self):
        self.assert_raised(InvalidNumber, "given", 4, self.rule.with_row, 4, None)
        self.assert_raised(InvalidNumber, "given", True, self.rule.with_row, True, "no row")
        self.assert_raised(InvalidNumber, "given", None, self.rule.with_row, row=7, index=None)


if __name__ == "__main__":
    unittest.main()
