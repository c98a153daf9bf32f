import itertools
import random
import unittest

from pileworn import asking
from pileworn.console import Console
from pileworn.errors import InvalidText, NotARule
from pileworn.piles import course, led
from pileworn.rules import Rule
from tests import plain
from tests.cases import NEVER, NO_RULES, OUT, SWAP, WHEEL, RaisingTestCase
from tests.drawn import some_searches
from tests.values import of_all_kinds

TEN = Rule("plates 10 away 1", "take 0 to 5 back bottom kept", "rest")
STILL = Rule("plates 2 away 0", "rest")
EMPTY = Rule("plates 2 away 0", "take 3 to 3 back top kept")

# Right lines for three plates and one row of days.
LINES = ("row 0", "row 1", "runs", "first 2", "rest 0", "lead 0 1", "worn", "shares 1", "places 2", "many 5",
         "many 400", "many 0", "day 2 2", "day 3", "day 1", "pile 2 2", "pile 0")

FOREIGN_ONES = ("\u00b9", "\u0661", "\u0967", "\uff11", "\u2460")


def spaced(numbers):
    return " ".join(map(str, numbers))


class ExamplesTest(unittest.TestCase):
    def test_examples_of_the_document(self):
        console = Console(WHEEL)
        self.assertEqual(
            [console.say(line) for line in ("row 1", "runs", "first 2", "rest 0", "lead 0 1", "worn", "shares 1",
                                            "places 2", "many 5", "day 2 2", "pile 2 2", "day 3")],
            ['take 1 to 2 back bottom kept', 'ever', '2 to 3', '2', '1', '1', '1/3 to 2/3', '0 1 2', '32', '2 0',
             '1 2 0', 'not let'])


class LinesTest(unittest.TestCase):
    @classmethod
    def setUpClass(cls):
        cls.rules = [rule for rule, _ in some_searches(120)] + [TEN, STILL, EMPTY]
        cls.endless = [rule for rule in cls.rules if asking.runs_out(rule) is None]

    def test_rows_and_runs(self):
        for rule in self.rules:
            console = Console(rule)
            for index, row in enumerate(rule.rows):
                self.assertEqual(console.say(f"row {index}"), row)
            shown = asking.runs_out(rule)
            self.assertEqual(console.say("runs"), "ever" if shown is None else f"out behind {len(shown)} days")
        whole = EMPTY.with_row(1, "take 2 to 2 back top kept")
        self.assertEqual([Console(rule).say("runs") for rule in (EMPTY, whole, OUT)],
                         ["out behind 0 days", "ever", "out behind 2 days"])
        self.assertEqual(Console(Rule("plates 2 away 1", "take 2 to 2 back top kept")).say("runs"), "out behind 1 days")

    def test_questions_about_a_plate(self):
        seen = set()
        for rule in self.endless:
            console = Console(rule)
            for plate in range(rule.plates):
                soonest, latest = asking.first_use(rule, plate)
                told = console.say(f"first {plate}")
                seen.add(told)
                if soonest is None:
                    self.assertEqual(told, "never")
                else:
                    self.assertEqual(told, f"{soonest} to {'never' if latest is None else latest}")
                rest = asking.longest_rest(rule, plate)
                self.assertEqual(console.say(f"rest {plate}"), "no end" if rest is None else str(rest))
                (least, parts), (most, others) = asking.shares(rule, plate)
                self.assertEqual(console.say(f"shares {plate}"), f"{least}/{parts} to {most}/{others}")
                self.assertEqual(console.say(f"places {plate}"), spaced(asking.places(rule, plate)))
        self.assertTrue({"never", "1 to 1", "1 to never", "2 to never", "2 to 3"} <= seen)

    def test_leads_and_worn(self):
        seen = set()
        for rule in self.endless:
            console = Console(rule)
            worn = asking.worn(rule)
            self.assertEqual(console.say("worn"), "no end" if worn is None else str(worn))
            for plate, mate in itertools.permutations(range(min(rule.plates, 4)), 2):
                lead = asking.lead(rule, plate, mate)
                seen.add(console.say(f"lead {plate} {mate}"))
                self.assertEqual(console.say(f"lead {plate} {mate}"), "no end" if lead is None else str(lead))
        self.assertTrue({"no end", "0", "1", "2"} <= seen)

    def test_a_pile_that_can_run_out(self):
        for rule in (OUT, EMPTY, Rule("plates 3 away 1", "take 1 to 2 back bottom kept", "take 2 to 3 back top kept")):
            console = Console(rule)
            for line in ("first 1", "rest 0", "lead 1 0", "worn", "shares 1", "places 0"):
                self.assertEqual(console.say(line), "out")
            self.assertEqual(console.say("row 1"), rule.rows[1])
            self.assertEqual(console.say("many 0"), "1")
        lines = ("many 2", "many 3", "day 2", "pile 2 2", "day 2 2 2", "pile 2 2 0")
        self.assertEqual([Console(OUT).say(line) for line in lines], ["1", "0", "0 1", "none", "not let", "not let"])

    def test_many(self):
        for rule in self.rules:
            for days in (0, 1, 2, 9, 10, 99, 100, 399, 400):
                self.assertEqual(Console(rule).say(f"many {days}"), str(asking.how_many(rule, days)))

    def test_days_and_piles(self):
        chooser = random.Random(20261120)
        seen = set()
        for rule in self.rules:
            console = Console(rule)
            for days in (1, 1, 2, 2, 3, 5):
                choices = tuple(chooser.randrange(3) for _ in range(days))
                if plain.walk(rule, choices) is None:
                    expected = ("not let", "not let")
                else:
                    expected = (spaced(course(rule, choices)[-1]) or "none", spaced(led(rule, choices)) or "none")
                told = (console.say("day " + spaced(choices)), console.say("pile " + spaced(choices)))
                self.assertEqual(told, expected)
                seen |= {("day", told[0]), ("pile", told[1])}
        for told in (("day", "none"), ("day", "not let"), ("day", "0 1"), ("pile", "not let"), ("pile", "none")):
            self.assertIn(told, seen)

    def test_great_numbers_are_not_let(self):
        for number in (3, 7, 10, 10 ** 39, 10 ** 40 - 1):
            self.assertEqual(Console(WHEEL).say(f"day {number}"), "not let")
            self.assertEqual(Console(WHEEL).say(f"pile 2 {number}"), "not let")
        self.assertEqual(Console(TEN).say("day " + "0 " * 901 + "5"), "not let")
        self.assertEqual(Console(TEN).say("day " + "0 " * 900 + "0 0"), "none")
        self.assertEqual(Console(TEN).say("day " + "0 " * 900 + "5"), "0 1 2 3 4")

    def test_names_and_the_rule(self):
        console = Console(rule=WHEEL)
        self.assertIs(console.rule, WHEEL)
        self.assertEqual(console.say(line="runs"), "ever")
        with self.assertRaises(AttributeError):
            console.rule = NEVER
        other = Console(NEVER)
        self.assertEqual([(console.say("worn"), other.say("worn")) for _ in range(2)], [("1", "no end")] * 2)
        self.assertTrue(console == console and console != other and console != Console(WHEEL) and bool(console))
        for name in ("rule", "say"):
            self.assertIn(name, vars(Console))
        self.assertEqual({console.say(line).__class__ for line in LINES}, {str})


class ErrorsTest(RaisingTestCase):
    def assert_no_line(self, line, rule=WHEEL):
        self.assert_raised(InvalidText, "given", line, Console(rule).say, line)

    def test_no_rule(self):
        for value in NO_RULES:
            self.assert_raised(NotARule, "given", value, Console, value)
            self.assert_raised(NotARule, "given", value, Console, rule=value)

    def test_no_string(self):
        for value in of_all_kinds():
            self.assert_no_line(value)
        for value in (b"runs", ("runs",), ["runs"], [b"runs"]):
            self.assert_no_line(value)
        self.assert_raised(InvalidText, "given", None, Console(WHEEL).say, line=None)

    def test_spaces_newlines_and_signs(self):
        for line in LINES:
            wrong = [" " + line, line + " ", line + "\n", "\n" + line, line + "\t", line + ".", line.upper(), line.title(),
                     line[1:], line + " x", line + " -1", line + "\r"]
            for at in range(len(line)):
                if line[at] == " ":
                    for between in ("", "  ", "\n", "\t", ",", " \n", "\u00a0"):
                        wrong.append(line[:at] + between + line[at + 1:])
            for text in wrong:
                # Without the space two numbers of choices are another one.
                if text not in ("day 22", "pile 22"):
                    self.assert_no_line(text)

    def test_numbers_written_in_other_ways(self):
        for line in LINES:
            word, *numbers = line.split(" ")
            for at, number in enumerate(numbers):
                others = ["0" + number, "+" + number, "-" + number, number + "0" * 3 + "x", number + ".0", "0x" + number,
                          "", "x", number + "_0", "(" + number + ")"]
                for other in others + list(FOREIGN_ONES):
                    self.assert_no_line(" ".join([word, *numbers[:at], other, *numbers[at + 1:]]))
        self.assert_no_line("day 00")
        self.assert_no_line("pile 01 1")

    def test_numbers_out_of_their_bounds(self):
        for line in ("row 2", "row 10", "first 3", "rest 3", "lead 0 3", "lead 3 0", "shares 3", "places 3", "places 10",
                     "many 401", "many 1000", f"many {10 ** 39}", f"row {10 ** 39}", f"first {10 ** 39}"):
            self.assert_no_line(line)
        self.assert_no_line("first 4", SWAP)
        self.assert_no_line("first 9", SWAP)
        self.assertEqual(Console(TEN).say("first 9"), "3 to never")
        self.assert_no_line("first 10", TEN)
        self.assert_no_line("row 3", TEN)

    def test_a_plate_twice(self):
        for plate in range(3):
            self.assert_no_line(f"lead {plate} {plate}")
            self.assert_no_line(f"lead {plate} {plate}", OUT)

    def test_words_too_few_or_too_many(self):
        for line in ("", " ", "row", "row 0 1", "runs 0", "runs runs", "first", "first 0 1", "rest", "rest 0 1", "lead",
                     "lead 0", "lead 0 1 2", "worn 0", "shares", "shares 0 1", "places", "places 0 1", "many", "many 1 2",
                     "day", "pile", "day x", "pile 1 x", "day 1 ", "tops", "say runs", "0", "1 2", "rule", "help",
                     "Row 1", "rows 1"):
            self.assert_no_line(line)
            self.assert_no_line(line, OUT)

    def test_what_was_said_wrong_changes_nothing(self):
        console = Console(WHEEL)
        for line in ("x", "day", None, "runs"):
            try:
                console.say(line)
            except InvalidText:
                self.assertEqual(console.say("runs"), "ever")


if __name__ == "__main__":
    unittest.main()
