"""The names, the parameters and the files that the document's interface lists."""

import importlib
import inspect
import unittest

FUNCTIONS = {
    "piles": ["led(rule, choices)", "course(rule, choices)", "uses(rule, choices)", "rests(rule, plate, choices)",
              "lead_in(rule, plate, mate, choices)"],
    "far": ["led_rounds(rule, choices, rounds)", "uses_rounds(rule, choices, rounds)"],
    "asking": ["runs_out(rule)", "first_use(rule, plate)", "longest_rest(rule, plate)", "lead(rule, plate, mate)",
               "worn(rule)", "soonest_lead(rule, plate, mate, by)", "shares(rule, plate)", "places(rule, plate)",
               "tops(rule)", "how_many(rule, days)", "parting(one, other)"],
    "rings": ["ring_uses(n, total, plate)", "ring_rest(n, takes)", "ring_shares(n, takes)",
              "ring_lead(n, takes, plate, mate)"],
    "seen": ["choices_seen(rule, days, seen)", "numbers_seen(rule, days, seen)", "standings_seen(rule, days, seen)"],
    "mends": ["fault(rule, wish)", "mending(rule, exchanges, wishes)"],
    "checker": ["accepts(claim, certificate)"],
    "certificates": ["certify_runs(rule)", "certify_rest(rule, plate, most)", "certify_lead(rule, plate, mate)",
                     "certify_reached(rule, plate, mate)"],
}
CLASSES = {
    "rules": {"Rule(*rows)": ["with_row(self, index, row)"]},
    "piles": {"Pile(rule)": ["day(self, number)", "undo(self)"]},
    "desks": {"Desk()": ["put(self, name, rule)", "named(self, name)", "drop(self, name)", "wish(self, wish)",
                         "lift(self, index)", "undo(self)", "trial(self)", "tried(self, action)", "__len__(self)",
                         "__bool__(self)"]},
    "console": {"Console(rule)": ["say(self, line)"]},
}
PROPERTIES = {
    "rules": {"Rule": ["rows", "text", "plates", "away"]},
    "piles": {"Pile": ["rule", "row", "lets", "standing", "heaps", "uses", "changes"]},
    "desks": {"Desk": ["names", "wishes", "changes"]},
    "console": {"Console": ["rule"]},
}


def module(name):
    return importlib.import_module("pileworn." + name)


class InterfaceTest(unittest.TestCase):
    def test_functions(self):
        for name, listed in FUNCTIONS.items():
            for text in listed:
                function = vars(module(name))[text.split("(")[0]]
                self.assertEqual(function.__name__ + str(inspect.signature(function)), text)
                self.assertEqual(function.__module__, "pileworn." + name)

    def test_classes_and_their_methods(self):
        for name, classes in CLASSES.items():
            for text, methods in classes.items():
                made = vars(module(name))[text.split("(")[0]]
                self.assertEqual(made.__name__ + str(inspect.signature(made)), text)
                self.assertEqual(made.__module__, "pileworn." + name)
                for listed in methods:
                    method = vars(made)[listed.split("(")[0]]
                    self.assertEqual(method.__name__ + str(inspect.signature(method)), listed)

    def test_properties(self):
        for name, classes in PROPERTIES.items():
            for made, listed in classes.items():
                for text in listed:
                    self.assertIsInstance(vars(vars(module(name))[made])[text], property)


if __name__ == "__main__":
    unittest.main()
