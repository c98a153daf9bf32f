import itertools
import unittest

from pileworn.asking import lead, longest_rest, runs_out
from pileworn.certificates import certify_lead, certify_reached, certify_rest, certify_runs
from pileworn.checker import accepts
from pileworn.errors import InvalidNumber, InvalidPlate, NotARule, RunsOut
from pileworn.piles import course, lead_in
from pileworn.rules import Rule
from tests import plain
from tests.cases import NEVER, NO_INTEGERS, NO_RULES, OUT, SWAP, WHEEL, RaisingTestCase
from tests.drawn import some_searches
from tests.plain_tables import PlainTables, standing

EMPTY = Rule("plates 2 away 0", "take 3 to 3 back top kept")
STILL = Rule("plates 2 away 2", "rest")
TEN = Rule("plates 10 away 2", "take 0 to 6 back under 1 kept", "take 0 to 6 back bottom kept", "turn")


class ExamplesTest(unittest.TestCase):
    def test_examples_of_the_document(self):
        wheel, never = WHEEL, NEVER
        self.assertEqual(
            [certify_runs(wheel)[0][0], certify_rest(wheel, 0, 2)[0][0], certify_rest(wheel, 0, 1)[0][0],
             certify_lead(wheel, 0, 1)[0][4], certify_lead(never, 0, 2)[0][0], certify_reached(wheel, 0, 2)[0][5],
             certify_reached(never, 0, 2)],
            ['runs', 'rests', 'rested', 1, 'endless', 1, None])
        claim, paper = certify_lead(wheel, 0, 1)
        self.assertEqual(
            [accepts(claim, paper), accepts(claim, ()), accepts(("endless", str(never), 0, 2, (), (1,)), ()),
             accepts(("rested", str(wheel), 1, (2, 1, 1), 2), ()), accepts(("runs", str(wheel)), (((0, ()), 0),))],
            [True, False, True, True, True])


class CertificatesTest(unittest.TestCase):
    @classmethod
    def setUpClass(cls):
        cls.searches = some_searches(140)
        cls.endless = [pair for pair in cls.searches if pair[1].days_to_the_end() is None]

    def assert_accepted(self, told, claim):
        """The claim is this one, and the checker accepts what is told with it, and not another certificate."""
        self.assertEqual((told.__class__, len(told), told[0]), (tuple, 2, claim))
        self.assertIs(accepts(*told), True, told)
        self.assertIs(accepts(told[0], told[1] + (None,)), False)
        return told[1]

    def test_runs(self):
        words = []
        for rule, search in self.searches:
            told, shown = certify_runs(rule), runs_out(rule)
            if shown is None:
                table = self.assert_accepted(told, ("runs", str(rule)))
                self.assertEqual(dict(table), {standing(state, ()): 0 for state in search.days})
            else:
                self.assertEqual(self.assert_accepted(told, ("out", str(rule), shown)), ())
            words.append(told[0][0])
        self.assertGreater(min(words.count("runs"), words.count("out")), 20)

    def test_rests(self):
        words = []
        for rule, search in self.endless:
            tables = PlainTables(search)
            for plate in range(rule.plates):
                longest = search.longest_rest(plate)
                near = (3, 17) if longest is None else (longest - 1, longest, longest + 1)
                for most in {0, 99, *[most for most in near if 0 <= most <= 99]}:
                    told = certify_rest(rule, plate, most)
                    words.append((told[0][0], most))
                    if longest is not None and longest <= most:
                        table = self.assert_accepted(told, ("rests", str(rule), plate, most))
                        self.assertTrue(tables.accepts_rests(plate, most, table))
                    else:
                        choices = told[0][3]
                        claim = ("rested", str(rule), plate, choices, most + 1)
                        self.assertEqual(self.assert_accepted(told, claim), ())
                        last = course(rule, choices)[-most - 1:]
                        self.assertEqual((len(last), [used for used in last if plate in used]), (most + 1, []))
        for word in itertools.product(("rests", "rested"), (0, 1, 2, 3, 99)):
            self.assertIn(word, words)

    def test_leads(self):
        words = []
        for rule, search in self.endless:
            tables = PlainTables(search)
            for plate, mate in itertools.permutations(range(rule.plates), 2):
                greatest, told = search.lead(plate, mate), certify_lead(rule, plate, mate)
                words.append(told[0][0])
                if greatest is None:
                    self.assertIsNone(certify_reached(rule, plate, mate))
                    choices, beyond = told[0][4:]
                    claim = ("endless", str(rule), plate, mate, choices, beyond)
                    self.assertEqual(self.assert_accepted(told, claim), ())
                    states = [plain.walk(rule, choices + beyond * many)[1] for many in (0, 1, 2)]
                    self.assertEqual(len({standing(state, (plate, mate)) for state in states}), 1)
                    leads = [lead_in(rule, plate, mate, choices + beyond * many) for many in (0, 1, 2)]
                    self.assertTrue(leads[0] < leads[1] < leads[2])
                else:
                    table = self.assert_accepted(told, ("lead", str(rule), plate, mate, greatest))
                    self.assertTrue(tables.accepts_lead(plate, mate, greatest, table))
                    reached = certify_reached(rule, plate, mate)
                    choices = reached[0][4]
                    self.assertEqual(
                        self.assert_accepted(reached, ("ahead", str(rule), plate, mate, choices, greatest)), ())
                    self.assertEqual(lead_in(rule, plate, mate, choices), greatest)
        self.assertGreater(min(words.count("lead"), words.count("endless")), 100)


class EdgesTest(unittest.TestCase):
    def test_a_plate_that_is_never_used(self):
        for rule, plate in ((STILL, 0), (STILL, 1), (NEVER, 2)):
            for most in (0, 1, 50, 98, 99):
                claim, paper = certify_rest(rule, plate, most)
                self.assertEqual((claim[0], claim[4], paper), ("rested", most + 1, ()))
                self.assertIs(accepts(claim, paper), True)

    def test_a_plate_that_is_used_every_day(self):
        rule = Rule("plates 2 away 0", "take 2 to 2 back top turned")
        for plate in (0, 1):
            self.assertEqual(certify_rest(rule, plate, 0),
                             (("rests", str(rule), plate, 0), (((0, (), plate), 0), ((0, (), 1 - plate), 0))))
        self.assertEqual(certify_reached(rule, 0, 1), (("ahead", str(rule), 0, 1, (), 0), ()))
        self.assertEqual(certify_lead(rule, 1, 0)[0], ("lead", str(rule), 1, 0, 0))

    def test_long_rests_that_end(self):
        rule = Rule("plates 10 away 0", "take 0 to 1 back bottom kept", *["take 0 to 1 back bottom kept"] * 4,
                    "take 1 to 1 back bottom kept")
        self.assertEqual(longest_rest(rule, 3), 59)
        for most in (57, 58, 59, 60, 99):
            claim, paper = certify_rest(rule, 3, most)
            self.assertEqual((claim[0], accepts(claim, paper)), ("rested" if most < 59 else "rests", True))

    def test_great_rules(self):
        for plate, mate in ((0, 9), (9, 0)):
            for told in (certify_runs(TEN), certify_rest(TEN, plate, 99), certify_lead(TEN, plate, mate)):
                self.assertIs(accepts(*told), True)
        rule = Rule(TEN.rows[0], "take 1 to 1 back bottom kept", "take 0 to 2 back bottom kept", "rest")
        for plate, mate in ((0, 9), (9, 0), (4, 5)):
            claim, paper = certify_lead(rule, plate, mate)
            self.assertEqual((claim[0], claim[4], accepts(claim, paper)), ("lead", lead(rule, plate, mate), True))
            self.assertIs(accepts(*certify_reached(rule, plate, mate)), True)

    def test_by_name_again_and_parts_passed_on(self):
        for _ in range(2):
            self.assertEqual(certify_runs(rule=WHEEL), (("runs", str(WHEEL)), (((0, ()), 0),)))
            self.assertEqual(certify_rest(most=2, plate=0, rule=WHEEL), certify_rest(WHEEL, 0, 2))
            self.assertEqual(certify_lead(mate=1, plate=0, rule=WHEEL), certify_lead(WHEEL, 0, 1))
            self.assertEqual(certify_reached(mate=1, plate=0, rule=WHEEL), certify_reached(WHEEL, 0, 1))
        claim, paper = certify_rest(SWAP, 3, 0)
        self.assertIs(accepts(certificate=paper, claim=claim), True)
        self.assertEqual(Rule.read(claim[1]), SWAP)


class ErrorsTest(RaisingTestCase):
    def test_no_rule(self):
        for value in NO_RULES:
            self.assert_raised(NotARule, "given", value, certify_runs, value)
            self.assert_raised(NotARule, "given", value, certify_runs, rule=value)
            for function in (certify_rest, certify_lead, certify_reached):
                self.assert_raised(NotARule, "given", value, function, value, 0, 1)
                self.assert_raised(NotARule, "given", value, function, value, None, None)

    def test_no_plate(self):
        for value in NO_INTEGERS + [-1, 4, 5, 10 ** 39, -10 ** 39]:
            for rule in (SWAP, OUT):
                for function in (certify_rest, certify_lead, certify_reached):
                    for other in (0, None, value):
                        self.assert_raised(InvalidPlate, "given", value, function, rule, value, other)
                for function in (certify_lead, certify_reached):
                    self.assert_raised(InvalidPlate, "given", value, function, rule, 3, value)
                    self.assert_raised(InvalidPlate, "given", value, function, mate=value, plate=0, rule=rule)

    def test_the_same_plate_is_no_mate(self):
        for rule in (SWAP, OUT):
            for function in (certify_lead, certify_reached):
                for plate in range(4):
                    self.assert_raised(InvalidPlate, "given", plate, function, rule, plate, plate)

    def test_no_bound(self):
        for value in NO_INTEGERS + [-1, 100, 101, 10 ** 39, -10 ** 39]:
            for rule in (SWAP, OUT):
                self.assert_raised(InvalidNumber, "given", value, certify_rest, rule, 0, value)
                self.assert_raised(InvalidNumber, "given", value, certify_rest, most=value, plate=3, rule=rule)

    def test_running_out_is_told_last(self):
        for rule in (OUT, EMPTY, Rule("plates 3 away 1", "take 1 to 2 back bottom kept", "take 2 to 3 back top kept")):
            shown = runs_out(rule)
            for most in (0, 99):
                self.assert_raised(RunsOut, "shown", shown, certify_rest, rule, 1, most)
            self.assert_raised(RunsOut, "shown", shown, certify_lead, rule, 0, 1)
            self.assert_raised(RunsOut, "shown", shown, certify_reached, rule, 1, 0)
            self.assertEqual(certify_runs(rule), (("out", str(rule), shown), ()))


if __name__ == "__main__":
    unittest.main()
