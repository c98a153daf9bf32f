import itertools
import random
import unittest

from pileworn.errors import InvalidNumber, InvalidSeen, NotARule
from pileworn.rules import Rule
from pileworn.seen import choices_seen, numbers_seen, standings_seen
from tests import plain
from tests.cases import NEVER, NO_INTEGERS, NO_RULES, NO_TUPLES, OUT, SWAP, UNDER, WHEEL, RaisingTestCase
from tests.drawn import some_rule
from tests.values import of_all_kinds

FUNCTIONS = (choices_seen, numbers_seen, standings_seen)
RULES = [
    WHEEL, UNDER, SWAP, NEVER, OUT,
    Rule("plates 2 away 0", "take 3 to 3 back top kept"),
    Rule("plates 2 away 2", "take 0 to 2 back under 1 kept", "turn"),
    Rule("plates 3 away 1", "take 0 to 3 back under 9 turned", "cut 1", "take 1 to 1 back top kept"),
    Rule("plates 3 away 1", "take 1 to 2 back bottom kept", "take 2 to 3 back top kept"),
    Rule("plates 4 away 2", "take 0 to 2 back under 2 turned", "take 1 to 2 back bottom kept", "rest"),
]


class PlainSights:
    """All tuples of numbers tried one by one, for one rule and so many days."""

    def __init__(self, rule, days):
        self.days = days
        self.walks = {}
        for choices in itertools.product(range(rule.plates + 1), repeat=days):
            walked = plain.walk(rule, choices)
            if walked is not None:
                self.walks[choices] = (walked[0], walked[1][1])

    def fitting(self, seen):
        return [choices for choices, (used, _) in self.walks.items()
                if all((plate in used[day]) is told for day, plate, told in seen)]

    def told(self, seen):
        """What the three functions should tell."""
        found = self.fitting(seen)
        numbers = None
        if found:
            numbers = tuple(tuple(sorted({choices[day] for choices in found})) for day in range(self.days))
        return tuple(sorted(found)), numbers, tuple(sorted({self.walks[choices][1] for choices in found}))


def some_seen(chooser, rule, days):
    if days == 0:
        return ()
    return tuple((chooser.randrange(days), chooser.randrange(rule.plates), chooser.choice((True, False)))
                 for _ in range(chooser.choice((0, 1, 1, 2, 2, 3, 5))))


class ExamplesTest(unittest.TestCase):
    def test_examples_of_the_document(self):
        wheel = Rule("plates 3 away 0", "take 1 to 2 back bottom kept")
        self.assertEqual(
            [choices_seen(wheel, 2, ((1, 0, True),)), numbers_seen(wheel, 3, ((0, 1, False), (2, 2, True))),
             numbers_seen(wheel, 1, ((0, 0, False),)), choices_seen(wheel, 0, ()),
             standings_seen(wheel, 2, ((1, 2, True),))],
            [((2, 2),), ((1,), (1,), (1, 2)), None, ((),), ((0, 1, 2), (1, 2, 0))])


class PlainSearchTest(unittest.TestCase):
    def assert_told(self, rule, days, seen, sights):
        told = tuple(function(rule, days, seen) for function in FUNCTIONS)
        self.assertEqual(told, sights.told(seen), (rule.rows, days, seen))
        return told

    def test_one_sight_of_each_kind(self):
        for rule in RULES:
            for days in range(4):
                sights = PlainSights(rule, days)
                self.assert_told(rule, days, (), sights)
                for sight in itertools.product(range(days), range(rule.plates), (True, False)):
                    self.assert_told(rule, days, (sight,), sights)

    def test_several_sights(self):
        chooser = random.Random(20261120)
        none = many = 0
        for rule in RULES + [some_rule(chooser) for _ in range(40)]:
            for days in range(1, 6):
                if (rule.plates + 1) ** days > 700:
                    break
                sights = PlainSights(rule, days)
                for _ in range(8):
                    numbers = self.assert_told(rule, days, some_seen(chooser, rule, days), sights)[1]
                    none += numbers is None
                    many += numbers is not None
        self.assertGreater(min(none, many), 100)

    def test_five_days(self):
        sights = PlainSights(WHEEL, 5)
        chooser = random.Random(20261121)
        for _ in range(60):
            self.assert_told(WHEEL, 5, some_seen(chooser, WHEEL, 5), sights)

    def test_all_that_was_seen_of_a_course_leaves_the_numbers(self):
        chooser = random.Random(20261122)
        for _ in range(60):
            rule = some_rule(chooser)
            choices, used = (), ()
            for _ in range(5):
                numbers = plain.numbers(rule, plain.walk(rule, choices)[1])
                if not numbers:
                    break
                choices += (chooser.choice(numbers),)
                used = plain.walk(rule, choices)[0]
            pairs = itertools.product(range(len(choices)), range(rule.plates))
            seen = tuple((day, plate, plate in used[day]) for day, plate in pairs)
            # So many plates are used on each day, so no other number fits.
            self.assertEqual(choices_seen(rule, len(choices), seen), (choices,))
            self.assertEqual(numbers_seen(rule, len(choices), seen), tuple((number,) for number in choices))
            self.assertEqual(standings_seen(rule, len(choices), seen), (plain.walk(rule, choices)[1][1],))


class EdgesTest(unittest.TestCase):
    def test_nothing_seen(self):
        self.assertEqual(choices_seen(WHEEL, 2, ()), ((1, 1), (1, 2), (2, 1), (2, 2)))
        self.assertEqual(numbers_seen(UNDER, 2, ()), ((1, 2, 3), (0,)))
        for rule in RULES:
            told = [function(rule, 0, ()) for function in FUNCTIONS]
            self.assertEqual(told, [((),), (), (tuple(range(rule.plates)),)])

    def test_sights_that_contradict_one_another(self):
        for seen in (((0, 1, True), (0, 1, False)), ((1, 0, False), (0, 0, True), (1, 0, True)), ((0, 0, False),),
                     ((0, 1, False), (0, 2, True))):
            self.assertEqual([function(WHEEL, 2, seen) for function in FUNCTIONS], [(), None, ()])

    def test_order_and_what_is_told_twice(self):
        seen = ((0, 1, False), (2, 2, True), (1, 1, True))
        for function in FUNCTIONS:
            told = function(WHEEL, 3, seen)
            for other in itertools.permutations(seen):
                self.assertEqual(function(WHEEL, 3, other), told)
                self.assertEqual(function(WHEEL, 3, other + other[:2] * 30), told)

    def test_piles_that_have_run_out(self):
        for days in (3, 4, 5):
            self.assertEqual([function(OUT, days, ()) for function in FUNCTIONS], [(), None, ()])
        self.assertEqual([function(OUT, 2, ()) for function in FUNCTIONS], [((2, 2),), ((2,), (2,)), ((),)])
        rule = Rule("plates 2 away 0", "take 3 to 3 back top kept")
        self.assertEqual([function(rule, 1, ((0, 0, True),)) for function in FUNCTIONS], [(), None, ()])

    def test_plates_that_are_away_are_not_used(self):
        rule = Rule("plates 3 away 2", "take 0 to 2 back top kept")
        self.assertEqual(choices_seen(rule, 2, ((0, 0, True), (1, 0, True))), ())
        told = choices_seen(rule, 3, ((0, 0, True), (1, 1, False), (2, 0, False)))
        self.assertEqual(told, ((1, 0, 0), (1, 0, 1), (1, 0, 2), (2, 0, 0), (2, 0, 1), (2, 1, 0)))

    def test_many_choices(self):
        rule = Rule("plates 10 away 0", "take 0 to 6 back under 2 kept", "take 0 to 6 back bottom turned")
        self.assertEqual(choices_seen(rule, 5, ()), tuple(itertools.product(range(7), repeat=5)))
        self.assertEqual(numbers_seen(rule, 5, ((4, 9, False),)), (tuple(range(7)),) * 5)
        told = standings_seen(rule, 4, ())
        self.assertEqual(told, tuple(sorted(set(told))))

    def test_kinds_of_values(self):
        told = choices_seen(WHEEL, 2, ()), numbers_seen(WHEEL, 2, ()), standings_seen(WHEEL, 2, ())
        for value in told:
            self.assertEqual((value.__class__, {part.__class__ for part in value}), (tuple, {tuple}))
            self.assertEqual({number.__class__ for part in value for number in part}, {int})

    def test_by_name_and_again(self):
        for _ in range(2):
            self.assertEqual(choices_seen(seen=((1, 0, True),), days=2, rule=WHEEL), ((2, 2),))
            self.assertEqual(numbers_seen(seen=((0, 1, False), (2, 2, True)), days=3, rule=WHEEL), ((1,), (1,), (1, 2)))
            self.assertEqual(standings_seen(seen=((1, 2, True),), days=2, rule=WHEEL), ((0, 1, 2), (1, 2, 0)))


class ErrorsTest(RaisingTestCase):
    def assert_wrong(self, error, attribute, value, *given):
        for function in FUNCTIONS:
            self.assert_raised(error, attribute, value, function, *given)
            self.assert_raised(error, attribute, value, function, **dict(zip(("rule", "days", "seen"), given)))

    def test_no_rule(self):
        for value in NO_RULES:
            self.assert_wrong(NotARule, "given", value, value, 1, ())
            self.assert_wrong(NotARule, "given", value, value, None, None)

    def test_no_number_of_days(self):
        for value in NO_INTEGERS + [-1, 6, 7, -10 ** 39, 10 ** 39]:
            for seen in ((), None, ((0, 0, True),)):
                self.assert_wrong(InvalidNumber, "given", value, WHEEL, value, seen)
                self.assert_wrong(InvalidNumber, "given", value, OUT, value, seen)

    def test_no_tuple(self):
        for value in NO_TUPLES + [[(0, 0, True)], {(0, 0, True): 1}]:
            for days in (0, 1, 5):
                self.assert_wrong(InvalidSeen, "index", None, WHEEL, days, value)

    def assert_no_sight(self, sight):
        valid = ((0, 2, False), (1, 0, True))
        self.assert_wrong(InvalidSeen, "index", 0, WHEEL, 2, (sight,))
        self.assert_wrong(InvalidSeen, "index", 0, WHEEL, 2, (sight, None) + valid)
        self.assert_wrong(InvalidSeen, "index", 2, WHEEL, 2, valid + (sight, sight))

    def test_the_first_that_is_no_triple(self):
        for value in of_all_kinds() + [(0, 0), (0, 0, True, True), [0, 0, True], "00t"]:
            self.assert_no_sight(value)

    def test_days_plates_and_uses(self):
        for value in NO_INTEGERS + [-1, -2, 2, 3, 10 ** 39]:
            self.assert_no_sight((value, 0, True))
        for value in NO_INTEGERS + [-1, -3, 3, 4, 10 ** 39]:
            self.assert_no_sight((0, value, True))
        for value in of_all_kinds():
            if value is not True and value is not False:
                self.assert_no_sight((0, 0, value))

    def test_edges_of_what_is_valid(self):
        self.assertEqual(choices_seen(WHEEL, 2, ((1, 2, True),)), ((1, 2), (2, 1), (2, 2)))
        for days in range(6):
            self.assert_wrong(InvalidSeen, "index", 0, WHEEL, days, ((days, 0, True),))
        self.assertEqual(choices_seen(WHEEL, 5, ((4, 0, True), (4, 1, True)))[:2], ((1, 1, 2, 2, 2), (1, 2, 1, 2, 2)))
        self.assert_wrong(InvalidSeen, "index", 1, OUT, 3, ((2, 3, True), (3, 3, True)))


if __name__ == "__main__":
    unittest.main()
