"""The examples of the whole document, just as written, in their order, as one course: they continue one another."""

import re
import unittest

from pileworn import errors

# A row with >>> is a statement or an expression; the row behind an expression is its value, or tells what is raised.
EXAMPLES = '''
>>> from pileworn.rules import Rule
>>> wheel = Rule("plates 3 away 0", "take 1 to 2 back bottom kept")
>>> [wheel.plates, wheel.away, len(wheel), repr(wheel), Rule.read(str(wheel)) == wheel, wheel.with_row(0, "plates 9 away 2").plates]
[3, 0, 1, 'Rule of 1 days', True, 9]
>>> Rule("plates 3 away 0", "take 2 to 1 back top kept")
raises InvalidRows(index=1)
>>> from pileworn.piles import Pile, course, lead_in, led, rests, uses
>>> pile = Pile(wheel)
>>> [pile.lets, pile.day(2), pile.standing, pile.day(1), pile.standing, pile.uses, pile.undo(), pile.standing, pile.changes]
[(1, 2), (0, 1), (2, 0, 1), (2,), (0, 1, 2), (1, 1, 1), None, (2, 0, 1), 1]
>>> under = Rule("plates 5 away 1", "take 1 to 3 back under 1 turned", "cut 2")
>>> pile = Pile(under)
>>> [pile.day(3), pile.heaps, pile.day(0), pile.standing, pile.heaps, pile.day(2), pile.standing]
[(0, 1, 2), ((0, 1, 2),), (), (3, 2, 1, 0, 4), ((),), (3, 2), (1, 0, 4)]
>>> [led(wheel, (2, 2)), uses(wheel, (2, 2)), rests(wheel, 1, (2, 1, 1)), lead_in(wheel, 0, 2, (2,)), led(under, ()), course(wheel, (2, 1, 2))]
[(1, 2, 0), (2, 1, 1), 2, 1, (0, 1, 2, 3, 4), ((0, 1), (2,), (0, 1))]
>>> pile.day(True)
raises InvalidNumber(given=True)
>>> from pileworn.far import led_rounds, uses_rounds
>>> swap = Rule("plates 4 away 0", "take 1 to 3 back under 1 turned")
>>> [led_rounds(wheel, (2,), 10 ** 30), uses_rounds(wheel, (2, 1), 10 ** 30), led_rounds(swap, (3, 1), 5), uses_rounds(swap, (3, 1), 2), uses_rounds(swap, (), 7)]
[(2, 0, 1), (1000000000000000000000000000000, 1000000000000000000000000000000, 1000000000000000000000000000000), (2, 3, 1, 0), (2, 2, 2, 2), (0, 0, 0, 0)]
>>> from pileworn.asking import first_use, how_many, lead, longest_rest, parting, places, runs_out, shares
>>> from pileworn.asking import soonest_lead, tops, worn
>>> never = Rule("plates 3 away 0", "take 1 to 2 back top kept")
>>> [runs_out(wheel), runs_out(Rule("plates 4 away 2", "take 2 to 2 back bottom kept")), runs_out(Rule("plates 2 away 0", "rest", "take 3 to 6 back top kept"))]
[None, (2, 2), (0,)]
>>> [first_use(wheel, 2), first_use(never, 1), first_use(never, 2), longest_rest(wheel, 0), longest_rest(never, 0), longest_rest(never, 1)]
[(2, 3), (1, None), (None, None), 2, 0, None]
>>> [lead(wheel, 0, 1), lead(wheel, 1, 0), lead(never, 0, 2), lead(never, 2, 0), worn(wheel), worn(never), shares(wheel, 1), shares(never, 1)]
[1, 0, None, 0, 1, None, ((1, 3), (2, 3)), ((0, 1), (1, 1))]
>>> [soonest_lead(wheel, 0, 1, 1), soonest_lead(wheel, 0, 1, 2), soonest_lead(never, 0, 1, 9), soonest_lead(under.with_row(2, "rest"), 0, 4, 2)]
[1, None, 9, 3]
>>> [places(wheel, 1), places(never, 2), tops(wheel), tops(never), how_many(wheel, 100) == 2 ** 100, how_many(Rule("plates 4 away 2", "take 2 to 2 back bottom kept"), 3), how_many(under, 2), how_many(under, 0)]
[(0, 1, 2), (2,), (0, 1, 2), (0,), True, 0, 3, 1]
>>> turned = wheel.with_row(1, "take 1 to 2 back bottom turned")
>>> [parting(wheel, turned), parting(wheel, Rule("plates 3 away 1", "take 1 to 2 back bottom kept")), parting(wheel, Rule("plates 4 away 0", "rest")), parting(wheel, wheel)]
[(2, 2), (2,), 'plates', None]
>>> from pileworn.rings import ring_lead, ring_rest, ring_shares, ring_uses
>>> [ring_uses(3, 4, 0), ring_uses(3, 4, 1), ring_uses(10 ** 30, 10 ** 31 + 5, 4), ring_rest(3, ((1, 2),)), ring_rest(10, ((1, 2), (3, 3))), ring_rest(10 ** 30, ((1, 2), (3, 3))), ring_rest(2, ((0, 1),))]
[2, 1, 11, 2, 5, 499999999999999999999999999999, None]
>>> [ring_shares(10, ((1, 2), (3, 3))), ring_lead(10, ((1, 2), (3, 3)), 0, 9), ring_lead(10, ((5, 5),), 0, 4), ring_lead(10, ((5, 5),), 4, 5), ring_lead(10, ((5, 5),), 9, 0)]
[((1, 5), (1, 4)), 1, 0, 1, 0]
>>> from pileworn.seen import choices_seen, numbers_seen, standings_seen
>>> [choices_seen(wheel, 2, ((1, 0, True),)), numbers_seen(wheel, 3, ((0, 1, False), (2, 2, True))), numbers_seen(wheel, 1, ((0, 0, False),)), choices_seen(wheel, 0, ()), standings_seen(wheel, 2, ((1, 2, True),))]
[((2, 2),), ((1,), (1,), (1, 2)), None, ((),), ((0, 1, 2), (1, 2, 0))]
>>> from pileworn.mends import fault, mending
>>> [fault(wheel, ("worn", 1)), fault(never, ("rest", 2, 9)), fault(wheel, ("lead", 0, 2, 0)), fault(never, ("rest", 3, 1)), fault(Rule("plates 2 away 0", "take 3 to 3 back top kept"), ("worn", 5))]
[None, 'ever', 1, 'plates', 'out']
>>> mending(never, ((1, "take 1 to 2 back bottom kept"), (1, "take 1 to 2 back under 1 kept"), (0, "plates 2 away 0"), (1, "rest")), (("runs",), ("rest", 1, 2)))
((0,), (1, 2))
>>> from pileworn.desks import Desk
>>> desk = Desk()
>>> desk.put("blue", wheel)
>>> desk.wish(("blue", ("worn", 1)))
>>> [desk.names, desk.wishes, desk.changes, desk.tried(len)]
[('blue',), (('blue', ('worn', 1)),), 2, 1]
>>> desk.put("blue", never)
raises Broken(index=0, shown='ever')
>>> from pileworn.certificates import certify_lead, certify_reached, certify_rest, certify_runs
>>> from pileworn.checker import accepts
>>> [certify_runs(wheel)[0][0], certify_rest(wheel, 0, 2)[0][0], certify_rest(wheel, 0, 1)[0][0], certify_lead(wheel, 0, 1)[0][4], certify_lead(never, 0, 2)[0][0], certify_reached(wheel, 0, 2)[0][5], certify_reached(never, 0, 2)]
['runs', 'rests', 'rested', 1, 'endless', 1, None]
>>> claim, paper = certify_lead(wheel, 0, 1)
>>> [accepts(claim, paper), accepts(claim, ()), accepts(("endless", str(never), 0, 2, (), (1,)), ()), accepts(("rested", str(wheel), 1, (2, 1, 1), 2), ()), accepts(("runs", str(wheel)), (((0, ()), 0),))]
[True, False, True, True, True]
>>> from pileworn.console import Console
>>> console = Console(wheel)
>>> [console.say(line) for line in ("row 1", "runs", "first 2", "rest 0", "lead 0 1", "worn", "shares 1", "places 2", "many 5", "day 2 2", "pile 2 2", "day 3")]
['take 1 to 2 back bottom kept', 'ever', '2 to 3', '2', '1', '1', '1/3 to 2/3', '0 1 2', '32', '2 0', '1 2 0', 'not let']
'''


def told_error(row, names):
    """The pair of the class and the attributes that are told to be raised."""
    name, attributes = re.fullmatch(r"raises (\w+)\((.*)\)", row).groups()
    return getattr(errors, name), eval(f"dict({attributes})", names)


class DocumentTest(unittest.TestCase):
    def course(self):
        """The pairs of a row of the program and the row told behind it, None if there is none."""
        rows = EXAMPLES.strip().split("\n")
        for row, following in zip(rows, [*rows[1:], ">>> "]):
            if row.startswith(">>> "):
                yield row[4:], None if following.startswith(">>> ") else following

    def test_all_examples(self):
        names, raised, values = {}, 0, 0
        for row, told in self.course():
            with self.subTest(row=row):
                if told is None:
                    exec(row, names)
                elif told.startswith("raises "):
                    error, attributes = told_error(told, names)
                    with self.assertRaises(error) as caught:
                        eval(row, names)
                    self.assertIs(caught.exception.__class__, error)
                    self.assertEqual(vars(caught.exception), attributes)
                    raised += 1
                else:
                    value = eval(row, names)
                    self.assertEqual(repr(value), repr(eval(told, names)))
                    values += 1
        self.assertEqual((raised, values), (3, 20))


if __name__ == "__main__":
    unittest.main()
