"""What is promised over the whole program."""

import inspect
import itertools
import random
import unittest

from pileworn import asking, certificates, checker, console, mends, piles, seen
from pileworn.desks import Desk
from pileworn.errors import NoAnswer, WrongName, WrongValue
from pileworn.rules import Rule
from tests.cases import NEVER, OUT, SWAP, UNDER, WHEEL
from tests.drawn import some_rule
from tests.test_interface import FUNCTIONS, module

RULES = (WHEEL, NEVER, OUT, SWAP, UNDER, UNDER.with_row(2, "rest"))
WISHES = (("runs",), ("rest", 1, 2), ("lead", 0, 2, 1), ("worn", 1), ("alike", WHEEL))
EXCHANGES = ((1, "take 1 to 2 back bottom kept"), (0, "plates 3 away 1"), (1, "rest"))

# Values for parameters by their names; each call takes some of them, whether they go together or not.
VALUES = {
    "rule": RULES + (None,), "one": RULES, "other": RULES + (WHEEL.text,), "plate": (0, 2, 9), "mate": (0, 1, True),
    "choices": ((), (2,), (1, 0), (2, 2), [1]), "rounds": (0, 3, 10 ** 30, -1), "by": (1, 9, 10), "days": (0, 2, 5, 401),
    "n": (1, 3, 10 ** 30, 0), "total": (0, 7, 10 ** 35), "takes": (((1, 2),), ((0, 1), (1, 1)), ((3, 3),), ()),
    "seen": ((), ((0, 0, True),), ((1, 1, False), (0, 2, True)), None), "wish": WISHES + (("runs", 1),),
    "exchanges": ((), EXCHANGES, EXCHANGES[:1], None), "wishes": ((), WISHES[:2], WISHES[2:], (None,)),
    "most": (0, 1, 99, 100), "claim": (("runs", str(WHEEL)), ("out", str(OUT), (2, 2)), None),
    "certificate": ((), (((0, ()), 0),), None),
}
LISTED = [vars(module(name))[text.split("(")[0]] for name, texts in FUNCTIONS.items() for text in texts]


def became(function, *given, **named):
    """What the call returns, or the class and the attributes of what it raises."""
    try:
        return repr(function(*given, **named))
    except (WrongValue, WrongName, NoAnswer) as error:
        return error.__class__, repr(vars(error))


def some_calls():
    """For each function some of the calls with these values."""
    chooser = random.Random(20261120)
    for function in LISTED:
        names = list(inspect.signature(function).parameters)
        calls = list(itertools.product(*(VALUES[name] for name in names)))
        for given in chooser.sample(calls, min(len(calls), 40)):
            yield function, names, given


class CallsTest(unittest.TestCase):
    def setUp(self):
        self.calls = list(some_calls())

    def test_equal_calls_whatever_is_asked_in_between(self):
        before = [became(function, *given) for function, _, given in self.calls]
        order = list(range(len(self.calls)))
        random.Random(20261121).shuffle(order)
        for index in order:
            function, names, given = self.calls[index]
            self.assertEqual(became(function, **dict(zip(names, given))), before[index], (function.__name__, given))

    def test_rules_made_anew_are_asked_alike(self):
        for function, names, given in self.calls:
            other = [Rule(*value.rows) if isinstance(value, Rule) else value for value in given]
            self.assertEqual(became(function, *other), became(function, *given))

    def test_nothing_that_is_passed_changes(self):
        told = repr(VALUES), [rule.rows for rule in RULES]
        for function, _, given in self.calls:
            became(function, *given)
        self.assertEqual((repr(VALUES), [rule.rows for rule in RULES]), told)


class TogetherTest(unittest.TestCase):
    """The modules beside one another, for rules that are drawn by lot."""

    def test_certificates_claims_and_questions(self):
        chooser = random.Random(20261122)
        for _ in range(150):
            rule = some_rule(chooser)
            told = certificates.certify_runs(rule)
            self.assertIs(checker.accepts(*told), True)
            self.assertEqual(told[0][0] == "runs", asking.runs_out(rule) is None)
            self.assertEqual(mends.fault(rule, ("runs",)), asking.runs_out(rule))
            if told[0][0] == "runs":
                for plate, mate in ((0, 1), (1, 0)):
                    greatest = asking.lead(rule, plate, mate)
                    claim, paper = certificates.certify_lead(rule, plate, mate)
                    self.assertEqual((claim[0] == "lead", checker.accepts(claim, paper)), (greatest is not None, True))
                    shown = mends.fault(rule, ("lead", plate, mate, 0))
                    self.assertEqual(shown, "ever" if greatest is None else greatest or None)
                    answer = console.Console(rule).say(f"lead {plate} {mate}")
                    self.assertEqual(answer, "no end" if greatest is None else str(greatest))

    def test_choices_seen_are_all_choices(self):
        chooser = random.Random(20261123)
        for _ in range(60):
            rule = some_rule(chooser)
            for days in range(5):
                told = seen.choices_seen(rule, days, ())
                self.assertEqual(len(told), asking.how_many(rule, days))
                self.assertEqual(tuple(sorted({piles.led(rule, choices) for choices in told})),
                                 seen.standings_seen(rule, days, ()))

    def test_a_mended_rule_can_be_put_on_a_desk(self):
        desk = Desk()
        desk.put("a", NEVER.with_row(1, EXCHANGES[0][1]))
        for wish in WISHES:
            desk.wish(("a", wish))
        for lot in mends.mending(NEVER, EXCHANGES, WISHES):
            rule = NEVER
            for index in lot:
                rule = rule.with_row(*EXCHANGES[index])
            desk.put("a", rule)
        self.assertEqual((desk.changes, mends.mending(NEVER, EXCHANGES, WISHES)), (7, ((0,),)))


if __name__ == "__main__":
    unittest.main()
