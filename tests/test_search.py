"""What is told for all choices, beside a plain search through all whole states of small piles."""

import itertools
import random
import unittest

from pileworn import asking
from pileworn.errors import RunsOut
from pileworn.rules import Rule
from tests import plain
from tests.drawn import some_row, some_rule, some_searches


class SearchTest(unittest.TestCase):
    @classmethod
    def setUpClass(cls):
        cls.searches = some_searches(260)
        cls.endless = [pair for pair in cls.searches if pair[1].days_to_the_end() is None]

    def test_there_are_rules_of_all_kinds(self):
        self.assertGreater(len(self.endless), 100)
        self.assertGreater(len(self.searches) - len(self.endless), 50)
        kinds = {(rule.plates, rule.away) for rule, _ in self.endless}
        self.assertEqual(kinds, set(itertools.product((2, 3, 4), (0, 1, 2))))
        self.assertEqual({len(rule) for rule, _ in self.endless}, {1, 2, 3, 4})

    def test_running_out(self):
        for rule, search in self.searches:
            shown, least = asking.runs_out(rule), search.days_to_the_end()
            if least is None:
                self.assertIsNone(shown, rule.rows)
            else:
                self.assertEqual(len(shown), least, rule.rows)
                self.assertEqual(plain.numbers(rule, plain.walk(rule, shown)[1]), [])
                with self.assertRaises(RunsOut) as caught:
                    asking.worn(rule)
                self.assertEqual(caught.exception.shown, shown)

    def test_first_uses_and_longest_rests(self):
        for rule, search in self.endless:
            for plate in range(rule.plates):
                self.assertEqual(asking.first_use(rule, plate), search.first_use(plate), (rule.rows, plate))
                self.assertEqual(asking.longest_rest(rule, plate), search.longest_rest(plate), (rule.rows, plate))

    def test_leads(self):
        for rule, search in self.endless:
            leads = []
            for plate, mate in itertools.permutations(range(rule.plates), 2):
                leads.append(search.lead(plate, mate))
                self.assertEqual(asking.lead(rule, plate, mate), leads[-1], (rule.rows, plate, mate))
            self.assertEqual(asking.worn(rule), None if None in leads else max(leads), rule.rows)

    def test_soonest_leads(self):
        for rule, search in self.endless:
            for plate, mate in itertools.permutations(range(rule.plates), 2):
                greatest = search.lead(plate, mate)
                for by in (1, 2, 3, 9):
                    told = asking.soonest_lead(rule, plate, mate, by)
                    if greatest is not None and greatest < by:
                        self.assertIsNone(told, (rule.rows, plate, mate, by))
                    else:
                        self.assertEqual(search.soonest_lead(plate, mate, by, told), told, (rule.rows, plate, mate, by))

    def test_shares(self):
        for rule, search in self.endless:
            if len(search.days) <= 60:
                for plate in range(rule.plates):
                    self.assertEqual(asking.shares(rule, plate), search.shares(plate), (rule.rows, plate))

    def test_places_and_tops(self):
        for rule, search in self.endless:
            for plate in range(rule.plates):
                self.assertEqual(asking.places(rule, plate), search.places(plate), (rule.rows, plate))
            self.assertEqual(asking.tops(rule), search.tops(), rule.rows)

    def test_numbers_of_choices(self):
        for rule, search in self.searches:
            for days in (0, 1, 2, 3, 7, 30):
                self.assertEqual(asking.how_many(rule, days), search.how_many(days), (rule.rows, days))


class PartingTest(unittest.TestCase):
    def assert_parting(self, one, other):
        told, least = asking.parting(one, other), plain.days_to_parting(one, other)
        if least is None:
            self.assertIsNone(told, (one.rows, other.rows))
        else:
            self.assertEqual(len(told), least, (one.rows, other.rows))
            self.assertTrue(plain.parts(one, other, told), (one.rows, other.rows, told))
        return told

    def test_one_row_exchanged(self):
        chooser = random.Random(20261120)
        lengths = []
        while len(lengths) < 400:
            one = some_rule(chooser)
            other = one.with_row(chooser.randint(1, len(one)), some_row(chooser, one.plates))
            told = self.assert_parting(one, other)
            lengths.append(None if told is None else len(told))
        for length in (None, 0, 1, 2, 3, 4):
            self.assertIn(length, lengths)

    def test_other_days_away_and_other_numbers_of_rows(self):
        chooser = random.Random(20261121)
        for _ in range(400):
            one = some_rule(chooser)
            rows = one.rows[1:] if chooser.randrange(3) else some_rule(chooser).rows[1:]
            rows = chooser.choice((rows, rows * 2, rows + ("rest",), rows[:1]))[:6]
            other = Rule(f"plates {one.plates} away {chooser.randint(0, 2)}", *rows)
            self.assert_parting(one, other)
            self.assert_parting(other, one)

    def test_rules_that_do_the_same(self):
        for rule, _ in some_searches(60):
            self.assertIsNone(self.assert_parting(rule, rule))
            doubled = Rule(*rule.rows, *(rule.rows[1:] if len(rule) < 4 else ()))
            self.assertIsNone(self.assert_parting(rule, doubled))


if __name__ == "__main__":
    unittest.main()
