import itertools
import random
import unittest

from pileworn.asking import parting, runs_out
from pileworn.errors import InvalidExchanges, InvalidRows, InvalidWish, InvalidWishes, NotARule
from pileworn.mends import fault, mending
from pileworn.rules import Rule
from tests import plain
from tests.cases import NEVER, NO_INTEGERS, NO_RULES, NO_TUPLES, OUT, SWAP, UNDER, WHEEL, RaisingTestCase
from tests.drawn import MOST_STATES, some_row, some_searches
from tests.values import of_all_kinds

GREAT = 10 ** 39
STILL = Rule("plates 2 away 0", "rest")
EMPTY = Rule("plates 2 away 0", "take 3 to 3 back top kept")

NO_NUMBERS = NO_INTEGERS + [-1, -2, -GREAT]

NO_WISHES = of_all_kinds() + [
    ("runs", 1), ("runs", ()), (("runs",),), ("run",), ("Runs",), ("runs ",), ["runs"], "runs", (None,), (b"runs",),
    ("rest",), ("rest", 1), ("rest", 1, 2, 3), ["rest", 1, 2], ("rest", (1, 2)), ("rests", 1, 2),
    ("lead",), ("lead", 0), ("lead", 0, 1), ("lead", 0, 1, 2, 3), ("lead", 1, 1, 5), ("lead", GREAT, GREAT, 0),
    ("worn",), ("worn", 1, 2), ("worn", (1,)), ("worn", "1"), ["worn", 1], (1, "worn"), ("", 1),
    ("alike",), ("alike", WHEEL, WHEEL), ("alike", str(WHEEL)), ("alike", WHEEL.rows), ("alike", (WHEEL,)),
    ("alike", None), (WHEEL,), (WHEEL, "alike"), ["alike", WHEEL], ("alike", "blue", "green"), ("blue", ("runs",)),
] + [
    wish for value in NO_NUMBERS for wish in (
        ("rest", value, 1), ("rest", 0, value), ("lead", value, 0, 1), ("lead", 0, value, 1), ("lead", 0, 1, value),
        ("worn", value))
]


class PlainFaults:
    """What shows that wishes do not hold, by the plain search."""

    def __init__(self):
        self.searches = {}

    def search(self, rule):
        if rule.rows not in self.searches:
            self.searches[rule.rows] = plain.Search(rule)
        return self.searches[rule.rows]

    def number(self, rule, word, plates):
        search = self.search(rule)
        if word == "rest":
            return search.longest_rest(*plates)
        if word == "lead":
            return search.lead(*plates)
        leads = [search.lead(*pair) for pair in itertools.permutations(range(rule.plates), 2)]
        return None if None in leads else max(leads)

    def shown(self, rule, wish):
        """For runs and alike the length of what is shown."""
        if wish[0] == "runs":
            return self.search(rule).days_to_the_end()
        if wish[0] == "alike":
            return "plates" if rule.plates != wish[1].plates else plain.days_to_parting(rule, wish[1])
        word, *plates, most = wish
        if any(plate >= rule.plates for plate in plates):
            return "plates"
        if self.search(rule).days_to_the_end() is not None:
            return "out"
        number = self.number(rule, word, plates)
        if number is None:
            return "ever"
        return number if number > most else None

    def mending(self, rule, exchanges, wishes):
        """All lots tried, and of those that mend the least ones."""
        lots = [lot for size in range(6) for lot in itertools.combinations(range(len(exchanges)), size)]
        found = [lot for lot in lots if self.mends(rule, [exchanges[index] for index in lot], wishes)]
        return tuple(lot for lot in found if not any(set(other) < set(lot) for other in found))

    def mends(self, rule, lot, wishes):
        if len({index for index, _ in lot}) < len(lot):
            return False
        rows = list(rule.rows)
        for index, row in lot:
            rows[index] = row
        try:
            mended = Rule(*rows)
        except InvalidRows:
            return False
        return all(self.shown(mended, wish) is None for wish in wishes)


def some_wish(chooser, plates):
    """A wish about so many plates, or one more."""
    kind = chooser.randrange(9)
    plate, mate = chooser.sample(range(plates + (chooser.randrange(8) == 0)), 2)
    most = chooser.choice((0, 1, 1, 2, 2, 3, 5))
    if kind == 0:
        return ("runs",)
    if kind < 4:
        return ("rest", plate, most)
    return ("lead", plate, mate, most) if kind < 7 else ("worn", most)


class ExamplesTest(unittest.TestCase):
    def test_examples_of_the_document(self):
        wheel, never = WHEEL, NEVER
        self.assertEqual(
            [fault(wheel, ("worn", 1)), fault(never, ("rest", 2, 9)), fault(wheel, ("lead", 0, 2, 0)),
             fault(never, ("rest", 3, 1)), fault(Rule("plates 2 away 0", "take 3 to 3 back top kept"), ("worn", 5))],
            [None, 'ever', 1, 'plates', 'out'])
        self.assertEqual(
            mending(never, ((1, "take 1 to 2 back bottom kept"), (1, "take 1 to 2 back under 1 kept"),
                            (0, "plates 2 away 0"), (1, "rest")), (("runs",), ("rest", 1, 2))),
            ((0,), (1, 2)))


class FaultTest(unittest.TestCase):
    @classmethod
    def setUpClass(cls):
        cls.faults = PlainFaults()
        cls.rules = [rule for rule, _ in some_searches(120)]

    def test_beside_a_plain_search(self):
        chooser = random.Random(20261120)
        told = []
        for rule in self.rules:
            for wish in [("runs",)] + [some_wish(chooser, rule.plates) for _ in range(6)]:
                shown, expected = fault(rule, wish), self.faults.shown(rule, wish)
                if wish == ("runs",):
                    self.assertEqual(shown, runs_out(rule))
                    shown = shown if shown is None else len(shown)
                self.assertEqual(shown, expected, (rule.rows, wish))
                self.assertIs(shown.__class__, expected.__class__)
                told.append(shown)
        for shown in (None, "plates", "out", "ever", 1, 2, 3):
            self.assertGreater(told.count(shown), 3, shown)

    def test_bounds_just_reached(self):
        for rule in self.rules:
            if self.faults.search(rule).days_to_the_end() is None:
                for word, plates in (("rest", (1,)), ("lead", (1, 0)), ("worn", ())):
                    number = self.faults.number(rule, word, plates)
                    for most in (range(3) if number is None else range(number + 2)):
                        told = fault(rule, (word, *plates, most))
                        self.assertEqual(told, "ever" if number is None else number if most < number else None)
                    self.assertEqual(fault(rule, (word, *plates, GREAT)), "ever" if number is None else None)

    def test_alike(self):
        chooser = random.Random(20261121)
        for rule in self.rules:
            other = chooser.choice((rule, rule.with_row(1, some_row(chooser, rule.plates)), chooser.choice(self.rules)))
            shown = fault(rule, ("alike", other))
            self.assertEqual(shown, parting(rule, other))
            expected = self.faults.shown(rule, ("alike", other))
            self.assertEqual(len(shown) if isinstance(shown, tuple) else shown, expected)

    def test_plates_are_shown_first_then_out(self):
        for rule in (OUT, EMPTY):
            for most in (0, 9, GREAT):
                for plate in (rule.plates, 10, GREAT):
                    self.assertEqual(fault(rule, ("rest", plate, most)), "plates")
                    self.assertEqual(fault(rule, ("lead", plate, 0, most)), "plates")
                    self.assertEqual(fault(rule, ("lead", 0, plate, most)), "plates")
                    self.assertEqual(fault(rule, ("lead", plate, plate + 1, most)), "plates")
                self.assertEqual(fault(rule, ("rest", rule.plates - 1, most)), "out")
                self.assertEqual(fault(rule, ("lead", rule.plates - 1, 0, most)), "out")
                self.assertEqual(fault(rule, ("worn", most)), "out")
        self.assertEqual((fault(OUT, ("runs",)), fault(EMPTY, ("runs",)), fault(WHEEL, ("runs",))), ((2, 2), (), None))

    def test_alike_without_running_for_ever(self):
        self.assertEqual(fault(OUT, ("alike", OUT)), None)
        self.assertEqual(fault(OUT, ("alike", SWAP)), ())
        self.assertEqual(fault(EMPTY, ("alike", WHEEL)), "plates")

    def test_by_name_and_again(self):
        for _ in range(2):
            self.assertEqual(fault(wish=("worn", 0), rule=WHEEL), 1)
            self.assertEqual(fault(wish=("worn", 1), rule=WHEEL), None)


class MendingTest(unittest.TestCase):
    def some_exchanges(self, chooser, rule):
        exchanges = []
        for _ in range(chooser.randint(0, 5)):
            index = chooser.choice((0, 1, len(rule), chooser.randint(0, len(rule))))
            row = some_row(chooser, rule.plates)
            if index == 0 and chooser.randrange(5):
                row = f"plates {chooser.choice((2, 3, 3, 4))} away {chooser.randint(0, 1)}"
            row = chooser.choice((row, row, row, row, row, row, row, rule.rows[index], "", row + " "))
            exchanges.append((index, row))
        return tuple(exchanges)

    def some_wishes(self, chooser, rule, exchanges):
        """Wishes drawn by lot, or one that holds with all these exchanges, the later ones standing over the others."""
        if chooser.randrange(2):
            return tuple(some_wish(chooser, rule.plates) for _ in range(chooser.choice((0, 1, 1, 2, 2, 3))))
        goal = rule
        for index, row in exchanges:
            try:
                goal = goal.with_row(index, row)
            except InvalidRows:
                continue
        return (("alike", goal),)

    def test_beside_a_plain_search(self):
        chooser, faults = random.Random(20261122), PlainFaults()
        rules = [rule for rule, search in some_searches(120) if len(search.days) <= MOST_STATES // 2]
        lengths = []
        for rule in rules * 5:
            exchanges = self.some_exchanges(chooser, rule)
            wishes = self.some_wishes(chooser, rule, exchanges)
            told = mending(rule, exchanges, wishes)
            self.assertEqual(told, faults.mending(rule, exchanges, wishes), (rule.rows, exchanges, wishes))
            lengths += [len(lot) for lot in told] or [None]
        for length in (None, 0, 1, 2, 3):
            self.assertGreater(lengths.count(length), 3, length)

    def test_no_wishes_and_no_exchanges(self):
        for rule in (WHEEL, OUT, EMPTY):
            self.assertEqual(mending(rule, (), ()), ((),))
            self.assertEqual(mending(rule, ((1, "rest"), (0, "none")), ()), ((),))
        self.assertEqual(mending(WHEEL, (), (("runs",), ("worn", 1))), ((),))
        self.assertEqual(mending(WHEEL, (), (("runs",), ("worn", 0))), ())
        self.assertEqual(mending(OUT, (), (("runs",),)), ())

    def test_two_exchanges_of_one_row(self):
        row = "take 1 to 2 back bottom kept"
        self.assertEqual(mending(NEVER, ((1, row), (1, row), (1, "turn")), (("worn", 1),)), ((0,), (1,), (2,)))
        self.assertEqual(mending(NEVER, ((1, row), (1, "rest")), (("alike", WHEEL),)), ((0,),))
        self.assertEqual(mending(NEVER, ((1, "cut 1"), (1, "rest")), (("alike", WHEEL),)), ())

    def test_rows_that_make_no_rule_in_their_places(self):
        row = "take 1 to 2 back bottom kept"
        wrong = ("", "x", "plates 3 away 0", row + "\n", row + " ", "cut 0", "take 2 to 1 back top kept")
        for text in wrong:
            self.assertEqual(mending(NEVER, ((1, text), (1, row)), (("worn", 1),)), ((1,),))
            self.assertEqual(mending(NEVER, ((1, text),), (("worn", 1),)), ())
        for text in ("", "rest", "plates 1 away 0", "plates 3 away 3", row):
            self.assertEqual(mending(NEVER, ((0, text), (1, row)), (("worn", 1),)), ((1,),))

    def test_exchanges_that_mend_only_together(self):
        rule = Rule("plates 3 away 0", "take 1 to 1 back top kept", "take 1 to 1 back top kept", "rest")
        bottom = "take 1 to 1 back bottom kept"
        exchanges = ((1, bottom), (2, bottom), (3, bottom), (0, "plates 2 away 0"))
        wishes = (("rest", 1, 3),)
        self.assertEqual(mending(rule, exchanges, wishes), PlainFaults().mending(rule, exchanges, wishes))
        goal = Rule(rule.rows[0], bottom, bottom, "rest")
        self.assertEqual(mending(rule, exchanges[:2], (("alike", goal),)), ((0, 1),))

    def test_plates_that_the_mended_rule_lacks(self):
        few = ((0, "plates 2 away 0"), (0, "plates 4 away 0"))
        self.assertEqual(mending(SWAP, few, (("rest", 3, GREAT),)), ())
        rule = WHEEL.with_row(1, "take 1 to 1 back bottom kept")
        self.assertEqual(mending(rule, few, (("rest", 1, 1),)), ((0,),))
        self.assertEqual(mending(rule, few, (("rest", 3, 3),)), ((1,),))
        self.assertEqual(mending(rule, few, (("rest", 2, 1),)), ())

    def test_five_exchanges(self):
        rule = Rule("plates 2 away 0", *["take 1 to 1 back top kept"] * 5)
        row = "take 2 to 2 back top kept"
        exchanges = tuple((index, row) for index in range(1, 6))
        self.assertEqual(mending(rule, exchanges, (("worn", 0),)), ((0, 1, 2, 3, 4),))
        self.assertEqual(mending(rule, exchanges, (("rest", 1, 2), ("rest", 0, 0))),
                         PlainFaults().mending(rule, exchanges, (("rest", 1, 2), ("rest", 0, 0))))

    def test_by_name_again_and_what_is_passed(self):
        exchanges = ((1, "take 1 to 2 back bottom kept"), (1, "rest"))
        for _ in range(2):
            self.assertEqual(mending(wishes=(("rest", 1, 2),), exchanges=exchanges, rule=NEVER), ((0,),))
        self.assertEqual(NEVER.rows, ("plates 3 away 0", "take 1 to 2 back top kept"))
        told = mending(NEVER, exchanges, (("rest", 1, 2),))
        self.assertEqual((told.__class__, told[0].__class__, told[0][0].__class__), (tuple, tuple, int))


class ErrorsTest(RaisingTestCase):
    def test_no_rule(self):
        for value in NO_RULES:
            for wish in (("runs",), None):
                self.assert_raised(NotARule, "given", value, fault, value, wish)
                self.assert_raised(NotARule, "given", value, fault, wish=wish, rule=value)
            for more in (((), ()), (None, None)):
                self.assert_raised(NotARule, "given", value, mending, value, *more)

    def test_no_wish(self):
        for rule in (WHEEL, OUT):
            for wish in NO_WISHES:
                self.assert_raised(InvalidWish, "given", wish, fault, rule, wish)
                self.assert_raised(InvalidWish, "given", wish, fault, rule, wish=wish)

    def test_no_exchanges(self):
        for value in NO_TUPLES + [((1, "rest"),) * 6, (None,) * 6, [(1, "rest")]]:
            for wishes in ((), None):
                self.assert_raised(InvalidExchanges, "index", None, mending, WHEEL, value, wishes)
                self.assert_raised(InvalidExchanges, "index", None, mending, WHEEL, exchanges=value, wishes=wishes)
        self.assertEqual(mending(WHEEL, ((1, "rest"),) * 5, ()), ((),))

    def test_the_first_that_is_no_exchange(self):
        wrong = of_all_kinds() + [(1,), (1, "rest", 1), [1, "rest"], ("rest", 1), (None, "rest")]
        wrong += [(index, "rest") for index in NO_INTEGERS + [-1, 2, 3, GREAT]]
        wrong += [(1, row) for row in of_all_kinds() if not isinstance(row, str)]
        wrong += [(1, ("rest",)), (0, b"plates 2 away 0")]
        for value in wrong:
            if value == (1, "rest"):
                continue
            for wishes in ((), None):
                self.assert_raised(InvalidExchanges, "index", 0, mending, WHEEL, (value,), wishes)
                exchanges = ((0, ""), (1, "x"), value, None)
                self.assert_raised(InvalidExchanges, "index", 2, mending, WHEEL, exchanges, wishes)
        three = UNDER
        self.assertEqual(mending(three, ((2, "rest"),), ()), ((),))
        self.assert_raised(InvalidExchanges, "index", 0, mending, three, ((3, "rest"),), ())

    def test_no_wishes(self):
        for value in NO_TUPLES + [[("runs",)], "runs"]:
            self.assert_raised(InvalidWishes, "index", None, mending, WHEEL, (), value)
            self.assert_raised(InvalidWishes, "index", None, mending, OUT, ((1, "rest"),), wishes=value)

    def test_the_first_that_is_no_wish(self):
        for wish in NO_WISHES:
            self.assert_raised(InvalidWishes, "index", 0, mending, WHEEL, (), (wish,))
            self.assert_raised(InvalidWishes, "index", 2, mending, OUT, (), (("worn", 0), ("alike", WHEEL), wish, None))

    def test_many_wishes(self):
        self.assertEqual(mending(WHEEL, (), (("worn", 1), ("runs",)) * 30), ((),))


if __name__ == "__main__":
    unittest.main()
