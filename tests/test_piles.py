import itertools
import unittest

from pileworn.errors import InvalidChoices, InvalidNumber, InvalidPlate, NotARule, NothingToUndo, NotLet
from pileworn.piles import Pile, course, lead_in, led, rests, uses
from pileworn.rules import Rule
from tests import plain
from tests.cases import NO_INTEGERS, NO_RULES, OUT, UNDER, WHEEL, RaisingTestCase
from tests.values import of_all_kinds

PROPERTIES = ("rule", "row", "lets", "standing", "heaps", "uses", "changes")

# Rules of all kinds of rows, for which all choices for a few days are gone through.
RULES = [
    WHEEL, UNDER, OUT,
    Rule("plates 2 away 0", "take 0 to 6 back top turned"),
    Rule("plates 2 away 2", "take 0 to 2 back under 1 kept", "turn"),
    Rule("plates 3 away 1", "take 0 to 3 back under 9 turned", "cut 1", "take 1 to 1 back top kept"),
    Rule("plates 4 away 1", "take 1 to 2 back top turned", "turn"),
    Rule("plates 5 away 2", "take 0 to 2 back under 2 turned", "take 1 to 2 back bottom kept", "cut 2"),
    Rule("plates 6 away 2", "take 1 to 3 back top kept", "take 2 to 2 back under 1 kept"),
    Rule("plates 10 away 2", "take 5 to 6 back bottom turned", "turn", "cut 3", "rest", "take 0 to 1 back top kept"),
]


def all_choices(rule, most):
    """All choices for at most so many days."""
    found = [()]
    for choices in found:
        yield choices
        if len(choices) < most:
            found += [choices + (number,) for number in plain.numbers(rule, plain.walk(rule, choices)[1])]


def told(pile):
    return [getattr(pile, name) for name in PROPERTIES]


class ExamplesTest(RaisingTestCase):
    def test_examples_of_the_document(self):
        wheel = Rule("plates 3 away 0", "take 1 to 2 back bottom kept")
        pile = Pile(wheel)
        self.assertEqual(
            [pile.lets, pile.day(2), pile.standing, pile.day(1), pile.standing, pile.uses, pile.undo(), pile.standing,
             pile.changes],
            [(1, 2), (0, 1), (2, 0, 1), (2,), (0, 1, 2), (1, 1, 1), None, (2, 0, 1), 1])
        under = Rule("plates 5 away 1", "take 1 to 3 back under 1 turned", "cut 2")
        pile = Pile(under)
        self.assertEqual(
            [pile.day(3), pile.heaps, pile.day(0), pile.standing, pile.heaps, pile.day(2), pile.standing],
            [(0, 1, 2), ((0, 1, 2),), (), (3, 2, 1, 0, 4), ((),), (3, 2), (1, 0, 4)])
        self.assertEqual(
            [led(wheel, (2, 2)), uses(wheel, (2, 2)), rests(wheel, 1, (2, 1, 1)), lead_in(wheel, 0, 2, (2,)),
             led(under, ()), course(wheel, (2, 1, 2))],
            [(1, 2, 0), (2, 1, 1), 2, 1, (0, 1, 2, 3, 4), ((0, 1), (2,), (0, 1))])
        self.assert_raised(InvalidNumber, "given", True, pile.day, True)


class DaysTest(RaisingTestCase):
    """Days that were worked out by hand."""

    def assert_days(self, rows, days):
        """The days are tuples: the pair that is let, the choice, the plates used, the pile and the heaps behind it."""
        pile = Pile(Rule(*rows))
        for at, (lets, number, used, standing, heaps) in enumerate(days):
            self.assertEqual((pile.lets, pile.row), (lets, rows[1 + at % (len(rows) - 1)]))
            self.assertEqual((pile.day(number), pile.standing, pile.heaps), (used, standing, heaps), (rows, at))
        self.assertEqual(pile.row, rows[1 + len(days) % (len(rows) - 1)])

    def assert_day(self, row, number, standing):
        """A day of five plates, of which none stays away."""
        self.assert_days(("plates 5 away 0", row), [(Pile(Rule("plates 5 away 0", row)).lets, number,
                                                     (0, 1, 2, 3, 4)[:number], standing, ())])

    def test_top(self):
        self.assert_day("take 0 to 5 back top kept", 0, (0, 1, 2, 3, 4))
        self.assert_day("take 0 to 5 back top kept", 3, (0, 1, 2, 3, 4))
        self.assert_day("take 0 to 5 back top turned", 1, (0, 1, 2, 3, 4))
        self.assert_day("take 0 to 5 back top turned", 3, (2, 1, 0, 3, 4))
        self.assert_day("take 0 to 5 back top turned", 5, (4, 3, 2, 1, 0))

    def test_bottom(self):
        self.assert_day("take 0 to 5 back bottom kept", 0, (0, 1, 2, 3, 4))
        self.assert_day("take 0 to 5 back bottom kept", 2, (2, 3, 4, 0, 1))
        self.assert_day("take 0 to 5 back bottom turned", 2, (2, 3, 4, 1, 0))
        self.assert_day("take 0 to 5 back bottom turned", 5, (4, 3, 2, 1, 0))

    def test_under(self):
        self.assert_day("take 0 to 5 back under 2 kept", 0, (0, 1, 2, 3, 4))
        self.assert_day("take 0 to 5 back under 2 kept", 2, (2, 3, 0, 1, 4))
        self.assert_day("take 0 to 5 back under 2 turned", 2, (2, 3, 1, 0, 4))
        self.assert_day("take 0 to 5 back under 1 turned", 3, (3, 2, 1, 0, 4))

    def test_under_so_many_as_lie_there_or_more(self):
        self.assert_day("take 0 to 5 back under 3 kept", 2, (2, 3, 4, 0, 1))
        self.assert_day("take 0 to 5 back under 3 turned", 2, (2, 3, 4, 1, 0))
        self.assert_day("take 0 to 5 back under 2 kept", 4, (4, 0, 1, 2, 3))
        self.assert_day("take 0 to 5 back under 9 turned", 4, (4, 3, 2, 1, 0))
        self.assert_day("take 0 to 5 back under 1 kept", 5, (0, 1, 2, 3, 4))

    def test_rows_that_take_none(self):
        self.assert_day("turn", 0, (4, 3, 2, 1, 0))
        self.assert_day("rest", 0, (0, 1, 2, 3, 4))
        self.assert_day("cut 1", 0, (1, 2, 3, 4, 0))
        self.assert_day("cut 2", 0, (2, 3, 4, 0, 1))
        self.assert_day("cut 4", 0, (4, 0, 1, 2, 3))

    def test_cut_with_at_most_so_many_plates(self):
        self.assert_day("cut 5", 0, (0, 1, 2, 3, 4))
        self.assert_day("cut 6", 0, (0, 1, 2, 3, 4))
        self.assert_day("cut 9", 0, (0, 1, 2, 3, 4))

    def test_all_ten_plates(self):
        rows = ("plates 10 away 0", "take 0 to 6 back bottom kept", "take 6 to 6 back under 3 turned", "cut 9")
        self.assert_days(rows, [
            ((0, 6), 5, (0, 1, 2, 3, 4), (5, 6, 7, 8, 9, 0, 1, 2, 3, 4), ()),
            ((6, 6), 6, (5, 6, 7, 8, 9, 0), (1, 2, 3, 0, 9, 8, 7, 6, 5, 4), ()),
            ((0, 0), 0, (), (4, 1, 2, 3, 0, 9, 8, 7, 6, 5), ()),
        ])

    def test_back_on_the_next_day(self):
        rows = ("plates 5 away 1", "take 1 to 3 back bottom turned", "take 1 to 1 back under 1 kept")
        self.assert_days(rows, [
            ((1, 3), 3, (0, 1, 2), (3, 4), ((0, 1, 2),)),
            ((1, 1), 1, (3,), (4, 2, 1, 0), ((3,),)),
            ((1, 3), 2, (4, 2), (1, 3, 0), ((4, 2),)),
            ((1, 1), 1, (1,), (3, 0, 2, 4), ((1,),)),
        ])

    def test_the_row_works_before_the_heap_comes_back(self):
        self.assert_days(("plates 5 away 1", "take 2 to 2 back top kept", "turn"), [
            ((2, 2), 2, (0, 1), (2, 3, 4), ((0, 1),)),
            ((0, 0), 0, (), (0, 1, 4, 3, 2), ((),)),
            ((2, 2), 2, (0, 1), (4, 3, 2), ((0, 1),)),
        ])
        self.assert_days(("plates 4 away 1", "take 2 to 2 back top kept", "cut 1"), [
            ((2, 2), 2, (0, 1), (2, 3), ((0, 1),)),
            ((0, 0), 0, (), (0, 1, 3, 2), ((),)),
        ])
        self.assert_days(("plates 4 away 1", "take 2 to 2 back under 1 turned", "cut 2"), [
            ((2, 2), 2, (0, 1), (2, 3), ((0, 1),)),
            ((0, 0), 0, (), (2, 1, 0, 3), ((),)),
        ])

    def test_under_counts_the_plates_that_lie_there_when_it_comes_back(self):
        self.assert_days(("plates 6 away 1", "take 2 to 2 back under 3 kept", "take 2 to 2 back bottom kept"), [
            ((2, 2), 2, (0, 1), (2, 3, 4, 5), ((0, 1),)),
            ((2, 2), 2, (2, 3), (4, 5, 0, 1), ((2, 3),)),
            ((2, 2), 2, (4, 5), (0, 1, 2, 3), ((4, 5),)),
            ((2, 2), 2, (0, 1), (2, 3, 4, 5), ((0, 1),)),
        ])

    def test_back_on_the_second_day(self):
        rows = ("plates 6 away 2", "take 1 to 2 back under 2 turned", "take 0 to 1 back top kept", "turn")
        self.assert_days(rows, [
            ((1, 2), 2, (0, 1), (2, 3, 4, 5), ((), (0, 1))),
            ((0, 1), 1, (2,), (3, 4, 5), ((0, 1), (2,))),
            ((0, 0), 0, (), (5, 4, 1, 0, 3), ((2,), ())),
            ((1, 2), 2, (5, 4), (2, 1, 0, 3), ((), (5, 4))),
            ((0, 1), 0, (), (2, 1, 0, 3), ((5, 4), ())),
            ((0, 0), 0, (), (3, 0, 4, 5, 1, 2), ((), ())),
        ])

    def test_one_row_and_two_days_away(self):
        self.assert_days(("plates 4 away 2", "take 1 to 2 back bottom kept"), [
            ((1, 2), 2, (0, 1), (2, 3), ((), (0, 1))),
            ((1, 2), 1, (2,), (3,), ((0, 1), (2,))),
            ((1, 1), 1, (3,), (0, 1), ((2,), (3,))),
            ((1, 2), 2, (0, 1), (2,), ((3,), (0, 1))),
        ])

    def test_what_is_let_with_few_plates_in_the_pile(self):
        self.assertEqual(Pile(Rule("plates 3 away 0", "take 1 to 6 back top kept")).lets, (1, 3))
        self.assertEqual(Pile(Rule("plates 2 away 0", "take 2 to 6 back top kept")).lets, (2, 2))
        self.assertEqual(Pile(Rule("plates 10 away 0", "take 2 to 6 back top kept")).lets, (2, 6))
        self.assertEqual(Pile(Rule("plates 2 away 0", "take 0 to 0 back top kept")).lets, (0, 0))
        self.assertIsNone(Pile(Rule("plates 2 away 0", "take 3 to 6 back top kept")).lets)

    def test_no_plates_in_the_pile(self):
        for row in ("turn", "cut 1", "rest", "take 0 to 3 back top kept"):
            self.assert_days(("plates 2 away 1", "take 0 to 2 back bottom turned", row), [
                ((0, 2), 2, (0, 1), (), ((0, 1),)),
                ((0, 0), 0, (), (1, 0), ((),)),
                ((0, 2), 1, (1,), (0,), ((1,),)),
            ])


class PileTest(RaisingTestCase):
    def test_at_the_beginning(self):
        for plates in range(2, 11):
            for away in range(3):
                rule = Rule(f"plates {plates} away {away}", "take 1 to 2 back top kept", "turn")
                for pile in (Pile(rule), Pile(rule=rule)):
                    everything = tuple(range(plates))
                    self.assertEqual(told(pile), [rule, rule.rows[1], (1, 2), everything, ((),) * away, (0,) * plates, 0])
                    self.assertIs(pile.rule, rule)

    def test_kinds_of_values(self):
        pile = Pile(UNDER)
        pile.day(2)
        for value in (pile.lets, pile.standing, pile.heaps, pile.heaps[0], pile.uses, pile.day(0)):
            self.assertIs(value.__class__, tuple)
        self.assertIs(pile.changes.__class__, int)
        self.assertEqual({number.__class__ for number in pile.uses + pile.standing}, {int})

    def test_no_rule(self):
        for value in NO_RULES:
            self.assert_raised(NotARule, "given", value, Pile, value)
            self.assert_raised(NotARule, "given", value, Pile, rule=value)

    def test_uses_and_changes(self):
        pile = Pile(UNDER)
        for number in (3, 0, 2, 0, 1):
            pile.day(number=number)
        # Used are 0 1 2, none, 3 2, none, 4: behind the cut of 1 0 4 the pile is 4 2 3 1 0.
        self.assertEqual((pile.changes, pile.uses), (5, (1, 1, 2, 1, 1)))
        self.assertEqual((pile.standing, pile.heaps), ((2, 3, 1, 0), ((4,),)))

    def test_a_number_that_is_no_integer(self):
        for pile in (Pile(WHEEL), self.run_out()):
            before = told(pile)
            for value in NO_INTEGERS:
                self.assert_raised(InvalidNumber, "given", value, pile.day, value)
                self.assert_raised(InvalidNumber, "given", value, pile.day, number=value)
            self.assertEqual(told(pile), before)

    def test_a_number_that_is_not_let(self):
        pile = Pile(WHEEL)
        pile.day(2)
        before = told(pile)
        for number in (0, 3, 4, -1, -2, 10 ** 39, -10 ** 39):
            self.assert_raised(NotLet, "given", number, pile.day, number)
            self.assertEqual(told(pile), before)
        self.assertEqual(pile.day(1), (2,))
        for row in ("turn", "cut 2", "rest", "take 0 to 0 back top kept"):
            for number in (-1, 1, 2, 9):
                self.assert_raised(NotLet, "given", number, Pile(Rule("plates 3 away 0", row)).day, number)

    def test_more_than_lie_in_the_pile(self):
        pile = Pile(Rule("plates 4 away 1", "take 1 to 3 back bottom kept"))
        pile.day(3)
        self.assertEqual(pile.lets, (1, 1))
        for number in (0, 2, 3):
            self.assert_raised(NotLet, "given", number, pile.day, number)
        self.assertEqual(pile.day(1), (3,))

    def run_out(self):
        pile = Pile(OUT)
        pile.day(2)
        pile.day(2)
        return pile

    def test_running_out(self):
        pile = self.run_out()
        expected = [OUT, OUT.rows[1], None, (), ((0, 1), (2, 3)), (1, 1, 1, 1), 2]
        self.assertEqual(told(pile), expected)
        for number in (-1, 0, 1, 2, 3, 10 ** 39):
            self.assert_raised(NotLet, "given", number, pile.day, number)
            self.assertEqual(told(pile), expected)
        self.assertIsNone(pile.undo())
        self.assertEqual(told(pile), [OUT, OUT.rows[1], (2, 2), (2, 3), ((), (0, 1)), (1, 1, 0, 0), 1])
        self.assertEqual(pile.day(2), (2, 3))
        self.assertEqual(told(pile), expected)

    def test_running_out_at_once_and_the_row_then(self):
        pile = Pile(Rule("plates 2 away 0", "rest", "take 3 to 6 back top kept"))
        self.assertEqual(pile.day(0), ())
        self.assertEqual((pile.lets, pile.row), (None, "take 3 to 6 back top kept"))
        self.assert_raised(NotLet, "given", 3, pile.day, 3)
        pile = Pile(Rule("plates 2 away 0", "take 3 to 6 back top kept"))
        self.assertEqual((pile.lets, pile.row, pile.changes), (None, "take 3 to 6 back top kept", 0))
        self.assert_raised(NotLet, "given", 0, pile.day, 0)

    def test_undo_leads_back_to_the_beginning(self):
        for rule in RULES:
            for choices in all_choices(rule, 4):
                pile = Pile(rule)
                before = []
                for number in choices:
                    before.append(told(pile))
                    pile.day(number)
                while before:
                    self.assertIsNone(pile.undo())
                    self.assertEqual(told(pile), before.pop())
                for _ in range(2):
                    with self.assertRaises(NothingToUndo) as caught:
                        pile.undo()
                    self.assertEqual(vars(caught.exception), {})
                self.assertEqual(told(pile), told(Pile(rule)))

    def test_as_if_the_day_had_never_been(self):
        pile, other = Pile(UNDER), Pile(UNDER)
        pile.day(1)
        pile.day(0)
        pile.undo()
        pile.undo()
        for number in (3, 0, 2):
            self.assertEqual(pile.day(number), other.day(number))
            self.assertEqual(told(pile), told(other))
        for _ in range(3):
            pile.undo()
            other.undo()
            self.assertEqual(told(pile), told(other))
        self.assertRaises(NothingToUndo, pile.undo)

    def test_two_piles_do_not_know_of_one_another(self):
        one, other = Pile(WHEEL), Pile(WHEEL)
        one.day(2)
        self.assertEqual((other.standing, other.changes, other.uses), ((0, 1, 2), 0, (0, 0, 0)))
        other.day(1)
        self.assertEqual((one.standing, other.standing), ((2, 0, 1), (1, 2, 0)))
        one.undo()
        self.assertEqual((one.changes, other.changes, other.standing), (0, 1, (1, 2, 0)))

    def test_what_was_handed_out_stays(self):
        pile = Pile(UNDER)
        handed = [told(pile)]
        for number in (3, 0, 1):
            handed.append([pile.day(number)] + told(pile))
        copies = [[str(value) for value in row] for row in handed]
        for number in (0, 2, 0):
            pile.day(number)
        for _ in range(6):
            pile.undo()
        self.assertEqual([[str(value) for value in row] for row in handed], copies)

    def test_properties_are_not_assigned(self):
        pile = Pile(WHEEL)
        for name in PROPERTIES:
            with self.assertRaises(AttributeError):
                setattr(pile, name, 1)

    def test_what_the_interface_lists_is_defined_in_the_class(self):
        for name in PROPERTIES + ("day", "undo"):
            self.assertIn(name, vars(Pile))

    def test_a_long_course(self):
        pile = Pile(WHEEL)
        for _ in range(3000):
            pile.day(2)
        self.assertEqual((pile.standing, pile.uses, pile.changes), ((0, 1, 2), (2000, 2000, 2000), 3000))


class ChoicesTest(RaisingTestCase):
    def test_piles_beside_choices_beside_a_plain_course(self):
        for rule in RULES:
            for choices in all_choices(rule, 4):
                pile = Pile(rule)
                used = tuple([pile.day(number) for number in choices])
                days, (row, standing, heaps) = plain.walk(rule, choices)
                self.assertEqual((used, pile.standing, pile.row), (days, standing, rule.rows[1 + row]))
                self.assertEqual(pile.heaps, tuple(heap for _, heap in heaps))
                numbers = plain.numbers(rule, (row, standing, heaps))
                self.assertEqual(pile.lets, (numbers[0], numbers[-1]) if numbers else None)
                self.assertEqual(pile.uses, tuple(sum(plate in day for day in days) for plate in range(rule.plates)))
                self.assertEqual((led(rule, choices), course(rule, choices), uses(rule, choices)),
                                 (pile.standing, used, pile.uses))

    def test_rests_and_leads_beside_the_course(self):
        for rule in RULES:
            for choices in all_choices(rule, 4):
                days = plain.walk(rule, choices)[0]
                for plate in range(rule.plates):
                    row = "".join("x" if plate in day else "." for day in days)
                    expected = max(len(rest) for rest in row.split("x"))
                    self.assertEqual(rests(rule, plate, choices), expected)
                    for mate in {0, 1, rule.plates - 1} - {plate}:
                        ahead = sum((plate in day) - (mate in day) for day in days)
                        self.assertEqual(lead_in(rule, plate, mate, choices), ahead)

    def test_no_choices(self):
        for rule in RULES:
            self.assertEqual((led(rule, ()), course(rule, ()), uses(rule, ())),
                             (tuple(range(rule.plates)), (), (0,) * rule.plates))
            self.assertEqual((rests(rule, 1, ()), lead_in(rule, 1, 0, ())), (0, 0))

    def test_rests_at_the_edges(self):
        self.assertEqual([rests(WHEEL, 0, (2, 1, 2, 2)), rests(WHEEL, 2, (1, 1)), rests(WHEEL, 0, (1, 1, 1))], [1, 2, 2])
        self.assertEqual(rests(Rule("plates 2 away 0", "take 1 to 1 back top kept"), 0, (1,) * 9), 0)
        self.assertEqual(rests(Rule("plates 2 away 0", "take 1 to 1 back top kept"), 1, (1,) * 9), 9)
        # The longest rest may be the first one, one between, or the last one.
        self.assertEqual(rests(WHEEL, 2, (1, 1, 1, 2, 1)), 2)
        self.assertEqual(rests(WHEEL, 0, (2, 1, 1, 1, 1, 2)), 2)
        self.assertEqual(lead_in(WHEEL, 2, 0, (1, 1)), -1)

    def test_by_name(self):
        self.assertEqual(led(choices=(2, 2), rule=WHEEL), (1, 2, 0))
        self.assertEqual(course(choices=(2,), rule=WHEEL), ((0, 1),))
        self.assertEqual(uses(choices=(2, 2), rule=WHEEL), (2, 1, 1))
        self.assertEqual(rests(choices=(2, 1, 1), plate=1, rule=WHEEL), 2)
        self.assertEqual(lead_in(choices=(2,), mate=2, plate=0, rule=WHEEL), 1)

    def test_equal_calls_and_long_choices(self):
        choices = (2, 1) * 1500
        for _ in range(2):
            self.assertEqual(uses(WHEEL, choices), (1500, 1500, 1500))
            self.assertEqual(led(WHEEL, choices), (0, 1, 2))
            self.assertEqual(rests(WHEEL, 2, choices), 1)


class ChoicesErrorsTest(RaisingTestCase):
    def every_call(self, rule, choices):
        return [(led, rule, choices), (course, rule, choices), (uses, rule, choices), (rests, rule, 1, choices),
                (lead_in, rule, 1, 0, choices)]

    def assert_no_choices(self, index, rule, choices):
        for function, *given in self.every_call(rule, choices):
            self.assert_raised(InvalidChoices, "index", index, function, *given)

    def test_no_tuple(self):
        for value in of_all_kinds() + [[2, 1], [], "21", {0: 2}, {2}]:
            if not isinstance(value, tuple):
                self.assert_no_choices(None, WHEEL, value)

    def test_the_first_number_that_is_none(self):
        for value in NO_INTEGERS:
            self.assert_no_choices(0, WHEEL, (value,))
            self.assert_no_choices(2, WHEEL, (2, 1, value, 0))
            self.assert_no_choices(1, UNDER, (2, value))

    def test_the_first_number_that_is_not_let(self):
        for number in (0, 3, -1, 10 ** 39, -10 ** 39):
            self.assert_no_choices(0, WHEEL, (number,))
            self.assert_no_choices(3, WHEEL, (2, 1, 2, number, None))
        self.assert_no_choices(1, UNDER, (2, 1))
        self.assert_no_choices(1, UNDER, (3, -1))
        self.assert_no_choices(2, UNDER, (3, 0, 4))

    def test_what_is_let_hangs_on_the_choices_ahead(self):
        rule = Rule("plates 4 away 1", "take 1 to 3 back bottom kept")
        self.assertEqual(course(rule, (1, 3)), ((0,), (1, 2, 3)))
        self.assert_no_choices(1, rule, (2, 3))
        self.assert_no_choices(1, rule, (3, 2))
        self.assertEqual(course(rule, (3, 1)), ((0, 1, 2), (3,)))

    def test_none_are_let_when_the_pile_has_run_out(self):
        for number in (0, 1, 2, 3):
            self.assert_no_choices(2, OUT, (2, 2, number))
            self.assert_no_choices(0, Rule("plates 2 away 0", "take 3 to 3 back top kept"), (number,))
        self.assertEqual(led(OUT, (2, 2)), ())

    def test_all_tuples_of_numbers(self):
        for rule in RULES:
            valid = set(all_choices(rule, 3))
            for choices in itertools.product(range(-1, 4), repeat=3):
                cut = [many for many in range(1, 4) if choices[:many] not in valid]
                if cut:
                    self.assert_no_choices(cut[0] - 1, rule, choices)
                else:
                    self.assertEqual(len(course(rule, choices)), 3)

    def test_no_rule(self):
        for value in NO_RULES:
            for choices in ((2,), None):
                for function, *given in self.every_call(value, choices):
                    self.assert_raised(NotARule, "given", value, function, *given)
            self.assert_raised(NotARule, "given", value, lead_in, value, None, None, None)
            self.assert_raised(NotARule, "given", value, rests, value, "x", None)

    def test_no_plate(self):
        for value in NO_INTEGERS + [-1, 3, 10, 10 ** 39, -10 ** 39]:
            for choices in ((2,), None, (0,)):
                self.assert_raised(InvalidPlate, "given", value, rests, WHEEL, value, choices)
                for mate in (0, None, value):
                    self.assert_raised(InvalidPlate, "given", value, lead_in, WHEEL, value, mate, choices)
                self.assert_raised(InvalidPlate, "given", value, lead_in, WHEEL, 0, value, choices)

    def test_the_plate_is_told_ahead_of_the_mate(self):
        self.assert_raised(InvalidPlate, "given", 3, lead_in, WHEEL, 3, 4, (2,))
        self.assert_raised(InvalidPlate, "given", 4, lead_in, WHEEL, 2, 4, (2,))
        self.assert_raised(InvalidPlate, "given", 2, lead_in, WHEEL, 2, 2, None)

    def test_plates_of_the_rule(self):
        self.assertEqual(rests(Rule("plates 10 away 0", "rest"), 9, (0, 0)), 2)
        self.assertEqual(lead_in(Rule("plates 10 away 0", "rest"), 9, 8, (0, 0)), 0)
        self.assert_raised(InvalidPlate, "given", 2, rests, Rule("plates 2 away 0", "rest"), 2, ())


if __name__ == "__main__":
    unittest.main()
