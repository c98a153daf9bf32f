import unittest

from pileworn.asking import (
    first_use, how_many, lead, longest_rest, parting, places, runs_out, shares, soonest_lead, tops, worn)
from pileworn.errors import InvalidNumber, InvalidPlate, NotARule, RunsOut
from pileworn.piles import lead_in, led, uses
from pileworn.rules import Rule
from tests.cases import NEVER, NO_INTEGERS, NO_RULES, OUT, UNDER, WHEEL, RaisingTestCase

STILL = Rule("plates 2 away 0", "rest")
SWAPPED = Rule("plates 4 away 0", "take 1 to 3 back bottom turned")

# Each with arguments behind the rule that are valid for three plates and more.
QUESTIONS = [(runs_out,), (first_use, 1), (longest_rest, 1), (lead, 1, 0), (worn,), (soonest_lead, 1, 0, 2),
             (shares, 1), (places, 1), (tops,), (how_many, 3)]


class ExamplesTest(unittest.TestCase):
    def test_running_out_and_single_plates(self):
        wheel, never = WHEEL, NEVER
        self.assertEqual(
            [runs_out(wheel), runs_out(Rule("plates 4 away 2", "take 2 to 2 back bottom kept")),
             runs_out(Rule("plates 2 away 0", "rest", "take 3 to 6 back top kept"))],
            [None, (2, 2), (0,)])
        self.assertEqual(
            [first_use(wheel, 2), first_use(never, 1), first_use(never, 2), longest_rest(wheel, 0),
             longest_rest(never, 0), longest_rest(never, 1)],
            [(2, 3), (1, None), (None, None), 2, 0, None])

    def test_leads_and_shares(self):
        wheel, never, under = WHEEL, NEVER, UNDER
        self.assertEqual(
            [lead(wheel, 0, 1), lead(wheel, 1, 0), lead(never, 0, 2), lead(never, 2, 0), worn(wheel), worn(never),
             shares(wheel, 1), shares(never, 1)],
            [1, 0, None, 0, 1, None, ((1, 3), (2, 3)), ((0, 1), (1, 1))])
        self.assertEqual(
            [soonest_lead(wheel, 0, 1, 1), soonest_lead(wheel, 0, 1, 2), soonest_lead(never, 0, 1, 9),
             soonest_lead(under.with_row(2, "rest"), 0, 4, 2)],
            [1, None, 9, 3])

    def test_places_and_numbers(self):
        wheel, never, under = WHEEL, NEVER, UNDER
        self.assertEqual(
            [places(wheel, 1), places(never, 2), tops(wheel), tops(never), how_many(wheel, 100) == 2 ** 100,
             how_many(Rule("plates 4 away 2", "take 2 to 2 back bottom kept"), 3), how_many(under, 2),
             how_many(under, 0)],
            [(0, 1, 2), (2,), (0, 1, 2), (0,), True, 0, 3, 1])

    def test_partings(self):
        turned = WHEEL.with_row(1, "take 1 to 2 back bottom turned")
        self.assertEqual(
            [parting(WHEEL, turned), parting(WHEEL, Rule("plates 3 away 1", "take 1 to 2 back bottom kept")),
             parting(WHEEL, Rule("plates 4 away 0", "rest")), parting(WHEEL, WHEEL)],
            [(2, 2), (2,), 'plates', None])


class ByHandTest(unittest.TestCase):
    def test_all_plates_taken_every_day(self):
        rule = Rule("plates 3 away 0", "take 3 to 3 back top turned")
        for plate in range(3):
            self.assertEqual((first_use(rule, plate), longest_rest(rule, plate)), ((1, 1), 0))
            self.assertEqual((shares(rule, plate), worn(rule)), (((1, 1), (1, 1)), 0))
            self.assertEqual(soonest_lead(rule, plate, (plate + 1) % 3, 1), None)
        self.assertEqual([places(rule, plate) for plate in range(3)], [(0, 2), (1,), (0, 2)])
        self.assertEqual((tops(rule), how_many(rule, 400)), ((0, 2), 1))

    def test_no_plate_is_ever_taken(self):
        for row in ("rest", "turn", "cut 1", "take 0 to 0 back top kept"):
            rule = Rule("plates 2 away 2", row)
            for plate in range(2):
                self.assertEqual((first_use(rule, plate), longest_rest(rule, plate)), ((None, None), None))
                self.assertEqual((shares(rule, plate), lead(rule, plate, 1 - plate)), (((0, 1), (0, 1)), 0))
            self.assertEqual((runs_out(rule), worn(rule), how_many(rule, 400)), (None, 0, 1))
        self.assertEqual((tops(Rule("plates 2 away 0", "turn")), tops(STILL)), ((0, 1), (0,)))
        self.assertEqual((places(STILL, 1), places(Rule("plates 3 away 0", "turn"), 1)), ((1,), (1,)))

    def test_a_ring_of_ten_plates(self):
        rule = Rule("plates 10 away 0", "take 1 to 2 back bottom kept", "take 3 to 3 back bottom kept")
        # The same pile is asked in the examples of pileworn.rings.
        self.assertEqual([longest_rest(rule, plate) for plate in (0, 4, 9)], [5, 5, 5])
        self.assertEqual([shares(rule, plate) for plate in (0, 4, 9)], [((1, 5), (1, 4))] * 3)
        self.assertEqual((lead(rule, 0, 9), lead(rule, 9, 0), worn(rule)), (1, 0, 1))
        self.assertEqual((first_use(rule, 0), first_use(rule, 9)), ((1, 1), (4, 6)))
        self.assertEqual((places(rule, 3), tops(rule)), (tuple(range(10)), tuple(range(10))))
        self.assertEqual(how_many(rule, 399), 2 ** 200)

    def test_choosing_none_for_ever(self):
        rule = Rule("plates 2 away 0", "take 0 to 1 back bottom kept")
        self.assertEqual((first_use(rule, 0), first_use(rule, 1)), ((1, None), (2, None)))
        self.assertEqual((longest_rest(rule, 0), shares(rule, 0)), (None, ((0, 1), (1, 2))))
        self.assertEqual((lead(rule, 0, 1), lead(rule, 1, 0), worn(rule)), (1, 0, 1))

    def test_shares_that_only_some_choices_have(self):
        # A plate that is used on two days lies at the bottom then, and is not used on the third one.
        rule = Rule("plates 3 away 0", "take 1 to 2 back under 1 kept")
        self.assertEqual(shares(rule, 0), ((0, 1), (2, 3)))
        # Plates 0 and 1 change places every other day, and plate 2 is never used.
        rule = Rule("plates 3 away 0", "take 1 to 1 back under 1 kept", "rest")
        self.assertEqual([shares(rule, plate) for plate in range(3)], [((1, 4), (1, 4))] * 2 + [((0, 1), (0, 1))])
        self.assertEqual((worn(rule), lead(rule, 0, 1), lead(rule, 1, 0), soonest_lead(rule, 1, 2, 9)), (None, 1, 0, 35))

    def test_leads_by_so_much(self):
        rule = Rule("plates 2 away 0", "take 1 to 1 back top kept")
        self.assertEqual([soonest_lead(rule, 0, 1, by) for by in range(1, 10)], list(range(1, 10)))
        self.assertEqual([soonest_lead(rule, 1, 0, by) for by in range(1, 10)], [None] * 9)
        rule = Rule("plates 2 away 0", "take 1 to 1 back top kept", "rest", "rest")
        self.assertEqual([soonest_lead(rule, 0, 1, by) for by in range(1, 10)], list(range(1, 26, 3)))

    def test_heaps_that_are_away_have_no_places(self):
        rule = Rule("plates 2 away 1", "take 1 to 1 back bottom kept")
        # The pile: 0 1, then 1 with 0 away, then 0 with 1 away, and so on.
        self.assertEqual((places(rule, 0), places(rule, 1), tops(rule)), ((0,), (0, 1), (0, 1)))
        self.assertEqual((longest_rest(rule, 0), first_use(rule, 1), worn(rule)), (1, (2, 2), 1))
        rule = Rule("plates 2 away 1", "take 2 to 2 back bottom turned", "rest", "rest")
        self.assertEqual((tops(rule), places(rule, 0)), ((0, 1), (0, 1)))

    def test_running_out_behind_most_choices_only(self):
        rule = Rule("plates 3 away 1", "take 1 to 2 back bottom kept", "take 2 to 3 back top kept")
        self.assertEqual((runs_out(rule), how_many(rule, 0), how_many(rule, 1), how_many(rule, 2)), ((2,), 1, 2, 1))
        self.assertEqual(runs_out(Rule("plates 2 away 0", "take 3 to 3 back top kept")), ())
        self.assertEqual(how_many(Rule("plates 2 away 0", "take 3 to 3 back top kept"), 0), 1)
        self.assertEqual(how_many(Rule("plates 2 away 0", "take 3 to 3 back top kept"), 1), 0)
        self.assertEqual(how_many(Rule("plates 2 away 0", "take 3 to 3 back top kept"), 400), 0)

    def test_numbers_of_choices(self):
        self.assertEqual([how_many(WHEEL, days) for days in (0, 1, 2, 399, 400)], [1, 2, 4, 2 ** 399, 2 ** 400])
        self.assertEqual(how_many(Rule("plates 10 away 0", "take 0 to 6 back top kept"), 400), 7 ** 400)
        # 2 and 1 plates can be away and lying there in turn, or 1 and 2, or 1 and 1 with 1 left.
        rule = Rule("plates 3 away 1", "take 1 to 2 back bottom kept")
        self.assertEqual([how_many(rule, days) for days in range(6)], [1, 2, 3, 5, 8, 13])

    def test_partings_by_what_is_let(self):
        one = Rule("plates 3 away 0", "take 1 to 2 back top kept")
        self.assertEqual(parting(one, Rule("plates 3 away 0", "take 1 to 3 back top kept")), ())
        self.assertEqual(parting(one, Rule("plates 3 away 0", "take 0 to 2 back top kept")), ())
        self.assertEqual(parting(Rule("plates 3 away 0", "take 1 to 5 back top kept"),
                                 Rule("plates 3 away 0", "take 1 to 3 back top kept")), None)
        self.assertEqual(parting(one, Rule("plates 3 away 0", "take 4 to 6 back top kept")), ())
        self.assertEqual(parting(Rule("plates 3 away 0", "take 5 to 6 back top kept"),
                                 Rule("plates 3 away 0", "take 4 to 6 back top kept")), None)
        self.assertEqual(parting(STILL, Rule("plates 2 away 1", "turn", "cut 1", "rest", "rest")), None)
        self.assertEqual(parting(STILL, Rule("plates 2 away 0", "rest", "take 0 to 1 back top kept")), (0,))

    def test_partings_by_the_plates_used_in_whatever_order(self):
        whole = Rule("plates 3 away 0", "take 3 to 3 back top kept")
        self.assertEqual(parting(whole, whole.with_row(1, "take 3 to 3 back top turned")), None)
        # Two plates are used again at once: their order is not looked at.
        one = Rule("plates 3 away 0", "take 2 to 2 back top kept")
        self.assertEqual(parting(one, one.with_row(1, "take 2 to 2 back top turned")), None)
        self.assertEqual(parting(one, one.with_row(1, "take 2 to 2 back bottom turned")), (2, 2))
        self.assertEqual(parting(Rule("plates 2 away 0", "turn", "take 1 to 1 back top kept"),
                                 Rule("plates 2 away 0", "rest", "take 1 to 1 back top kept")), (0, 1))

    def test_rules_with_other_numbers_of_plates(self):
        for one in (WHEEL, OUT, STILL, UNDER):
            for other in (WHEEL, OUT, STILL, UNDER):
                if one.plates != other.plates:
                    self.assertEqual(parting(one, other), "plates")
                else:
                    self.assertIsNone(parting(one, other))

    def test_kinds_of_values(self):
        told = [runs_out(OUT), first_use(WHEEL, 0), shares(WHEEL, 0), shares(WHEEL, 0)[0], places(WHEEL, 0), tops(WHEEL),
                parting(WHEEL, NEVER)]
        self.assertEqual({value.__class__ for value in told}, {tuple})
        told = [*first_use(WHEEL, 0), longest_rest(WHEEL, 0), lead(WHEEL, 0, 1), worn(WHEEL), how_many(WHEEL, 0),
                soonest_lead(WHEEL, 0, 1, 1), *shares(WHEEL, 0)[0], *places(WHEEL, 0), *tops(WHEEL), *runs_out(OUT)]
        self.assertEqual({value.__class__ for value in told}, {int})

    def test_by_name_and_again(self):
        for _ in range(2):
            self.assertEqual(runs_out(rule=OUT), (2, 2))
            self.assertEqual(first_use(plate=2, rule=WHEEL), (2, 3))
            self.assertEqual(longest_rest(plate=0, rule=WHEEL), 2)
            self.assertEqual(lead(mate=1, plate=0, rule=WHEEL), 1)
            self.assertEqual(worn(rule=WHEEL), 1)
            self.assertEqual(soonest_lead(by=9, mate=1, plate=0, rule=NEVER), 9)
            self.assertEqual(shares(plate=1, rule=WHEEL), ((1, 3), (2, 3)))
            self.assertEqual(places(plate=2, rule=NEVER), (2,))
            self.assertEqual(tops(rule=NEVER), (0,))
            self.assertEqual(how_many(days=2, rule=UNDER), 3)
            self.assertEqual(parting(other=NEVER, one=WHEEL), (1, 1))


class GreatRulesTest(unittest.TestCase):
    def test_ten_plates_and_six_rows(self):
        rule = Rule("plates 10 away 2", "take 0 to 6 back under 1 kept", "take 0 to 6 back bottom kept",
                    "take 0 to 6 back under 5 kept", "take 0 to 6 back under 3 turned", "take 0 to 6 back under 2 turned",
                    "take 0 to 6 back top kept")
        self.assertEqual((runs_out(rule), worn(rule), lead(rule, 9, 2)), (None, None, None))
        self.assertEqual((first_use(rule, 9)[1], longest_rest(rule, 9), tops(rule)), (None, None, tuple(range(10))))
        least, greatest = shares(rule, 9)
        self.assertEqual((least, greatest[0] * 3 <= greatest[1]), ((0, 1), True))
        self.assertIsNone(parting(rule, rule))

    def test_nothing_that_is_passed_changes(self):
        rows, text = UNDER.rows, UNDER.text
        for function, *more in QUESTIONS:
            try:
                function(UNDER, *more)
            except RunsOut:
                self.assertIsNotNone(runs_out(UNDER))
        self.assertEqual((UNDER.rows, UNDER.text), (rows, text))


class ErrorsTest(RaisingTestCase):
    def test_no_rule(self):
        for value in NO_RULES:
            for function, *more in QUESTIONS:
                self.assert_raised(NotARule, "given", value, function, value, *more)
                self.assert_raised(NotARule, "given", value, function, value, *[None for _ in more])
            for other in (WHEEL, None, STILL):
                self.assert_raised(NotARule, "given", value, parting, value, other)
            for one in (WHEEL, OUT, STILL):
                self.assert_raised(NotARule, "given", value, parting, one, value)
                self.assert_raised(NotARule, "given", value, parting, other=value, one=one)

    def test_no_plate(self):
        for value in NO_INTEGERS + [-1, -2, -10 ** 39, 4, 5, 10, 10 ** 39]:
            for rule in (SWAPPED, OUT):
                for function in (first_use, longest_rest, shares, places):
                    self.assert_raised(InvalidPlate, "given", value, function, rule, value)
                    self.assert_raised(InvalidPlate, "given", value, function, rule, plate=value)
                for mate in (0, 4, None, value):
                    self.assert_raised(InvalidPlate, "given", value, lead, rule, value, mate)
                    self.assert_raised(InvalidPlate, "given", value, soonest_lead, rule, value, mate, 0)
                for plate in (0, 3):
                    self.assert_raised(InvalidPlate, "given", value, lead, rule, plate, value)
                    self.assert_raised(InvalidPlate, "given", value, soonest_lead, rule, plate, value, 0)
                    self.assert_raised(InvalidPlate, "given", value, soonest_lead, rule, plate, mate=value, by=1)

    def test_the_same_plate_is_no_mate(self):
        for rule in (SWAPPED, OUT):
            for plate in range(4):
                self.assert_raised(InvalidPlate, "given", plate, lead, rule, plate, plate)
                self.assert_raised(InvalidPlate, "given", plate, soonest_lead, rule, plate, plate, None)

    def test_no_number_of_days(self):
        for value in NO_INTEGERS + [-1, 401, 402, -400, 10 ** 39, -10 ** 39]:
            for rule in (WHEEL, OUT):
                self.assert_raised(InvalidNumber, "given", value, how_many, rule, value)
                self.assert_raised(InvalidNumber, "given", value, how_many, rule, days=value)

    def test_no_number_to_lead_by(self):
        for value in NO_INTEGERS + [0, -1, 10, 11, 10 ** 39, -10 ** 39]:
            for rule in (WHEEL, OUT):
                self.assert_raised(InvalidNumber, "given", value, soonest_lead, rule, 0, 1, value)
                self.assert_raised(InvalidNumber, "given", value, soonest_lead, rule, 0, 1, by=value)

    def test_a_pile_that_can_run_out(self):
        for rule in (OUT, Rule("plates 3 away 1", "take 1 to 2 back bottom kept", "take 2 to 3 back top kept"),
                     Rule("plates 2 away 0", "take 3 to 3 back top kept"),
                     Rule("plates 5 away 2", "take 1 to 4 back top kept", "turn", "take 3 to 3 back top kept")):
            shown = runs_out(rule)
            for function, *more in QUESTIONS:
                if function not in (runs_out, how_many):
                    self.assert_raised(RunsOut, "shown", shown, function, rule, *more)
            self.assertIsNone(parting(rule, rule))
            self.assertEqual(parting(rule, Rule(f"plates {rule.plates} away 0", "rest")) in ((), (0,)), True)

    def test_running_out_is_told_last(self):
        self.assert_raised(InvalidPlate, "given", 4, first_use, OUT, 4)
        self.assert_raised(InvalidPlate, "given", 1, lead, OUT, 1, 1)
        self.assert_raised(InvalidNumber, "given", 10, soonest_lead, OUT, 0, 1, 10)
        self.assert_raised(RunsOut, "shown", (2, 2), soonest_lead, OUT, 0, 1, 9)

    def test_edges_of_what_is_valid(self):
        self.assertEqual([first_use(SWAPPED, plate)[0] for plate in (0, 3)], [1, 2])
        self.assertEqual((soonest_lead(NEVER, 0, 2, 1), soonest_lead(NEVER, 0, 2, 9)), (1, 9))
        self.assertEqual((how_many(NEVER, 0), how_many(NEVER, 400)), (1, 2 ** 400))


class ShownTest(unittest.TestCase):
    def test_what_is_told_is_reached_by_choices(self):
        self.assertEqual(led(OUT, runs_out(OUT)), ())
        # The greatest lead of wheel is reached, and choices with a greater one do not exist.
        self.assertEqual(lead_in(WHEEL, 0, 1, (1,)), lead(WHEEL, 0, 1))
        self.assertEqual(max(uses(NEVER, (1,) * 9)) - min(uses(NEVER, (1,) * 9)), soonest_lead(NEVER, 0, 2, 9))


if __name__ == "__main__":
    unittest.main()
