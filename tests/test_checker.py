import itertools
import random
import unittest

from pileworn.checker import accepts
from pileworn.rules import Rule
from tests import plain
from tests.cases import NEVER, NO_INTEGERS, NO_TUPLES, OUT, SWAP, UNDER, WHEEL
from tests.drawn import some_searches
from tests.plain_tables import (
    PlainTables, standing, table_of_leads, table_of_rests, table_of_sizes)
from tests.values import of_all_kinds

GREAT = 10 ** 39
WORDS = ("runs", "out", "rests", "rested", "lead", "ahead", "endless")
EMPTY = Rule("plates 2 away 0", "take 3 to 3 back top kept")

# One rule with heaps that are away, whose tables have standings of all kinds.
AWAY = Rule("plates 4 away 2", "take 1 to 1 back bottom kept", "take 0 to 1 back bottom kept")

NO_RULE_TEXTS = ["", "x", "rest", str(WHEEL) + "\n", "\n" + str(WHEEL), str(WHEEL)[:-1], str(WHEEL).upper(),
                 str(WHEEL).replace("\n", " "), str(WHEEL).replace("plates 3", "plates 11")]


def of_search(rule):
    return plain.Search(rule)


def some_papers(many):
    """Rules with right claims and certificates, made by going through all states."""
    for rule, search in some_searches(many):
        yield rule, search, list(right_papers(rule, search))


def right_papers(rule, search):
    text = str(rule)
    if search.days_to_the_end() is None:
        yield ("runs", text), table_of_sizes(search)
    for choices in some_choices(rule, search):
        used, (row, pile, heaps) = plain.walk(rule, choices)
        if not plain.numbers(rule, (row, pile, heaps)):
            yield ("out", text, choices), ()
        for plate in range(rule.plates):
            rested = len(choices) - max([day + 1 for day in range(len(choices)) if plate in used[day]], default=0)
            for days in range(1, rested + 1):
                yield ("rested", text, plate, choices, days), ()
        for plate, mate in itertools.permutations(range(rule.plates), 2):
            yield ("ahead", text, plate, mate, choices, lead_of(used, plate, mate)), ()
            yield from rounds(rule, choices, plate, mate)
    for plate in range(rule.plates):
        table = table_of_rests(search, plate)
        if table is not None:
            yield ("rests", text, plate, max(height for _, height in table)), table
    for plate, mate in itertools.permutations(range(rule.plates), 2):
        table = table_of_leads(search, plate, mate)
        if table is not None:
            yield ("lead", text, plate, mate, max(height for _, height in table)), table


def lead_of(used, plate, mate):
    return sum((plate in day) - (mate in day) for day in used)


def rounds(rule, choices, plate, mate):
    """The choices cut into two, where the second part is a round with a greater lead."""
    used, last = plain.walk(rule, choices)
    for cut in range(len(choices)):
        ahead = plain.walk(rule, choices[:cut])[1]
        if standing(ahead, (plate, mate)) == standing(last, (plate, mate)) and lead_of(used[cut:], plate, mate) > 0:
            yield ("endless", str(rule), plate, mate, choices[:cut], choices[cut:]), ()


def some_choices(rule, search):
    """Choices drawn by lot, some of them until the pile has run out."""
    chooser = random.Random(str(rule))
    for most in (0, 1, 2, 4, 7):
        state, choices = search.first, ()
        while len(choices) < most and plain.numbers(rule, state):
            choices += (chooser.choice(plain.numbers(rule, state)),)
            state = plain.walk(rule, choices)[1]
        yield choices


def replaced(row, index, value):
    return row[:index] + (value,) + row[index + 1:]


class ExamplesTest(unittest.TestCase):
    def test_examples_of_the_document(self):
        wheel, never = WHEEL, NEVER
        self.assertEqual(
            [accepts(("endless", str(never), 0, 2, (), (1,)), ()), accepts(("rested", str(wheel), 1, (2, 1, 1), 2), ()),
             accepts(("runs", str(wheel)), (((0, ()), 0),))],
            [True, True, True])


class RightTest(unittest.TestCase):
    @classmethod
    def setUpClass(cls):
        cls.papers = list(some_papers(70))

    def test_all_right_ones(self):
        words = []
        for _, _, papers in self.papers:
            for claim, certificate in papers:
                self.assertIs(accepts(claim, certificate), True, (claim, certificate))
                words.append(claim[0])
        for word in WORDS:
            self.assertGreater(words.count(word), 20, word)

    def test_the_order_of_a_table(self):
        for _, _, papers in self.papers:
            for claim, certificate in papers:
                if certificate:
                    self.assertIs(accepts(claim, certificate[::-1]), True)
                    self.assertIs(accepts(certificate=certificate[1:] + certificate[:1], claim=claim), True)

    def test_a_standing_missing_or_twice(self):
        for _, _, papers in self.papers:
            for claim, certificate in papers:
                for index in range(len(certificate)):
                    self.assertIs(accepts(claim, certificate[:index] + certificate[index + 1:]), False)
                    again = (certificate[index][0], certificate[index][1] + index % 2)
                    self.assertIs(accepts(claim, certificate + (certificate[index],)), False)
                    self.assertIs(accepts(claim, (again,) + certificate), False)

    def test_other_heights(self):
        for rule, search, papers in self.papers:
            tables = PlainTables(search)
            for claim, certificate in papers:
                for index in range(len(certificate)):
                    for more in (-1, 1):
                        height = certificate[index][1] + more
                        other = replaced(certificate, index, (certificate[index][0], height))
                        self.assertIs(accepts(claim, other), self.expected(tables, claim, other), (claim, other))

    def expected(self, tables, claim, certificate):
        if claim[0] == "rests":
            return tables.accepts_rests(*claim[2:], certificate)
        if claim[0] == "lead":
            return tables.accepts_lead(*claim[2:], certificate)
        return False

    def test_all_heights_moved(self):
        for rule, search, papers in self.papers:
            for claim, certificate in papers:
                up, down = [tuple((key, height + more) for key, height in certificate) for more in (1, -1)]
                if claim[0] in ("rests", "lead"):
                    greater = replaced(claim, len(claim) - 1, claim[-1] + 1)
                    self.assertEqual([accepts(greater, table) for table in (up, certificate)], [True, True])
                    self.assertIs(accepts(greater, down), False)
                    self.assertEqual([accepts(claim, table) for table in (up, down)], [False, False])
                elif claim[0] == "runs":
                    self.assertEqual([accepts(claim, up), accepts(claim, down)], [False, False])

    def test_other_bounds(self):
        for _, _, papers in self.papers:
            for claim, certificate in papers:
                if claim[0] in ("rests", "lead"):
                    for most in (claim[-1] - 1, -1, -GREAT):
                        self.assertIs(accepts(replaced(claim, len(claim) - 1, most), certificate), False)
                    for most in (claim[-1] + 1, GREAT):
                        self.assertIs(accepts(replaced(claim, len(claim) - 1, most), certificate), True)
                if claim[0] == "ahead":
                    for number in (claim[-1] - 1, claim[-1] + 1, GREAT):
                        self.assertIs(accepts(replaced(claim, 5, number), ()), False)
                if claim[0] == "rested":
                    for days in (0, -1, len(claim[3]) + 1, GREAT):
                        self.assertIs(accepts(replaced(claim, 4, days), ()), False)

    def test_another_plate(self):
        for rule, search, papers in self.papers:
            tables = PlainTables(search)
            for claim, certificate in papers:
                if claim[0] == "rests":
                    for plate in range(rule.plates):
                        told = accepts(replaced(claim, 2, plate), certificate)
                        self.assertIs(told, tables.accepts_rests(plate, claim[3], certificate))
                if claim[0] == "lead":
                    for plate, mate in itertools.permutations(range(rule.plates), 2):
                        told = accepts((*claim[:2], plate, mate, claim[4]), certificate)
                        self.assertIs(told, tables.accepts_lead(plate, mate, claim[4], certificate))
                if claim[0] in ("rests", "rested", "lead", "ahead", "endless"):
                    for plate in (-1, rule.plates, GREAT):
                        self.assertIs(accepts(replaced(claim, 2, plate), certificate), False)
                if claim[0] in ("lead", "ahead", "endless"):
                    for mate in (-1, rule.plates, GREAT, claim[2]):
                        self.assertIs(accepts(replaced(claim, 3, mate), certificate), False)
                    self.assertIs(accepts(replaced(claim, 2, claim[3]), certificate), False)

    def test_another_rule(self):
        for _, _, papers in self.papers:
            for claim, certificate in papers[:1] + papers[-1:]:
                for text in NO_RULE_TEXTS:
                    self.assertIs(accepts(replaced(claim, 1, text), certificate), False)

    def test_a_bound_of_another_rule_is_accepted_only_if_it_is_so(self):
        for rule, search, _ in self.papers[:20]:
            for claim, certificate in [paper for _, _, papers in self.papers[:20] for paper in papers]:
                if accepts(replaced(claim, 1, str(rule)), certificate):
                    if claim[0] == "rests":
                        self.assertLessEqual(search.longest_rest(claim[2]), claim[3])
                    if claim[0] == "lead":
                        self.assertLessEqual(search.lead(*claim[2:4]), claim[4])
                    if claim[0] == "runs":
                        self.assertIsNone(search.days_to_the_end())

    def test_another_word(self):
        for _, _, papers in self.papers[:25]:
            for claim, certificate in papers:
                for word in WORDS + ("", "run", "Runs", "runs ", None, 0, b"runs"):
                    if word != claim[0]:
                        self.assertIs(accepts((word,) + claim[1:], certificate), False, (word, claim, certificate))

    def test_an_element_more_or_fewer(self):
        for _, _, papers in self.papers:
            for claim, certificate in papers:
                for more in (None, 0, (), claim[-1]):
                    self.assertIs(accepts(claim + (more,), certificate), False)
                self.assertIs(accepts(claim[:-1], certificate), False)
                self.assertIs(accepts(claim[1:], certificate), False)
                self.assertIs(accepts(claim, certificate + (None,)), False)
                self.assertIs(accepts(claim, certificate + ((),)), False)


class ChoicesTest(unittest.TestCase):
    """Claims that tell choices, beside the plain course."""

    def test_running_out(self):
        later = Rule("plates 3 away 1", "take 1 to 2 back bottom kept", "take 2 to 3 back top kept")
        for rule in (OUT, EMPTY, WHEEL, UNDER, later):
            for days in range(4):
                for choices in itertools.product(range(-1, 4), repeat=days):
                    walked = None if -1 in choices else plain.walk(rule, choices)
                    expected = walked is not None and not plain.numbers(rule, walked[1])
                    self.assertIs(accepts(("out", str(rule), choices), ()), expected, (rule.rows, choices))

    def test_rests_and_leads(self):
        for rule in (WHEEL, SWAP, AWAY):
            for days in range(4):
                for choices in itertools.product(range(4), repeat=days):
                    walked = plain.walk(rule, choices)
                    for number in range(-2, 5):
                        expected = walked is not None and 1 <= number <= days and not any(
                            1 in day for day in walked[0][days - number:])
                        self.assertIs(accepts(("rested", str(rule), 1, choices, number), ()), expected)
                        expected = walked is not None and lead_of(walked[0], 0, 2) == number
                        self.assertIs(accepts(("ahead", str(rule), 0, 2, choices, number), ()), expected)

    def test_rounds(self):
        found = 0
        for rule in (NEVER, SWAP, AWAY, Rule("plates 3 away 1", "take 1 to 1 back top kept", "rest"),
                     Rule("plates 4 away 0", "take 1 to 2 back under 1 kept", "take 0 to 1 back top kept")):
            for days in range(6):
                for choices in itertools.product(range(3), repeat=days):
                    walked = plain.walk(rule, choices)
                    for cut in range(days + 1):
                        expected = walked is not None and choices[:cut] in [
                            claim[4] for claim, _ in rounds(rule, choices, 0, 2)]
                        found += expected
                        told = accepts(("endless", str(rule), 0, 2, choices[:cut], choices[cut:]), ())
                        self.assertIs(told, expected, (rule.rows, choices, cut))
        self.assertGreater(found, 50)

    def test_a_round_comes_back_to_the_same_row_and_the_same_heaps(self):
        # Plate 0 lies at place 0 again behind each day, but the rows differ.
        rule = Rule("plates 3 away 0", "take 1 to 1 back top kept", "take 0 to 1 back top kept")
        self.assertIs(accepts(("endless", str(rule), 0, 1, (), (1,)), ()), False)
        self.assertIs(accepts(("endless", str(rule), 0, 1, (), (1, 0)), ()), True)
        self.assertIs(accepts(("endless", str(rule), 0, 1, (1,), (0, 1)), ()), True)
        # Plates 0 and 1 lie as they did, and plate 0 leads more, but another heap is away.
        for rows, ahead, beyond in ((("plates 3 away 1", "take 0 to 2 back under 1 turned"), (), (1, 0, 2, 1)),
                                    (("plates 3 away 1", "take 1 to 2 back top kept"), (), (2, 1, 1, 1)),
                                    (("plates 4 away 2", "take 1 to 2 back bottom kept", "turn"), (), (1, 0, 1, 0))):
            used, last = plain.walk(Rule(*rows), ahead + beyond)
            first = plain.walk(Rule(*rows), ahead)[1]
            self.assertEqual(standing(first, (0, 1))[2:], standing(last, (0, 1))[2:])
            self.assertGreater(lead_of(used, 0, 1), 0)
            self.assertIs(accepts(("endless", "\n".join(rows), 0, 1, ahead, beyond), ()), False)

    def test_the_certificate_is_the_empty_tuple(self):
        claims = (("out", str(OUT), (2, 2)), ("rested", str(WHEEL), 1, (2, 1, 1), 2),
                  ("ahead", str(WHEEL), 0, 2, (2,), 1), ("endless", str(NEVER), 0, 2, (), (1,)))
        for claim in claims:
            self.assertIs(accepts(claim, ()), True)
            for value in of_all_kinds() + [[], {}, "", 0, None, ((),), (0,)]:
                if value != ():
                    self.assertIs(accepts(claim, value), False)


class ByHandTest(unittest.TestCase):
    def test_a_pile_that_can_run_out(self):
        text = str(OUT)
        # All its standings of sizes: behind (2, 2) no number is let.
        table = (((0, (0, 0)), 0), ((0, (0, 2)), 0), ((0, (2, 2)), 0))
        self.assertIs(accepts(("runs", text), table), False)
        self.assertIs(accepts(("runs", text), table[:2]), False)
        # What never comes but behind a day that cannot be gets no height.
        leads = (((0, (0, 0), 0, 1), 0), ((0, (0, 2), (1, 0), (1, 1)), 0), ((0, (2, 2), (0, 0), (0, 1)), 0))
        self.assertIs(accepts(("lead", text, 0, 1, 0), leads), True)
        self.assertIs(accepts(("lead", text, 0, 1, 0), leads[:2]), False)
        rests = (((0, (0, 0), 0), 0), ((0, (0, 2), (1, 0)), 0), ((0, (2, 2), (0, 0)), 1))
        self.assertIs(accepts(("rests", text, 0, 1), rests), True)
        self.assertIs(accepts(("rests", text, 0, 0), rests), False)

    def test_heights_that_are_not_the_least(self):
        claim = ("rests", str(WHEEL), 0, 9)
        self.assertIs(accepts(claim, (((0, (), 0), 9), ((0, (), 1), 8), ((0, (), 2), 7))), True)
        self.assertIs(accepts(claim, (((0, (), 0), 9), ((0, (), 1), 8), ((0, (), 2), 5))), True)
        self.assertIs(accepts(claim, (((0, (), 0), 9), ((0, (), 1), 9), ((0, (), 2), 7))), False)
        self.assertIs(accepts(claim, (((0, (), 0), 9), ((0, (), 1), 7), ((0, (), 2), 7))), False)
        self.assertIs(accepts(claim, (((0, (), 0), 10), ((0, (), 1), 8), ((0, (), 2), 7))), False)
        claim = ("lead", str(WHEEL), 0, 1, 5)
        table = (((0, (), 0, 1), 4), ((0, (), 2, 0), 5), ((0, (), 1, 2), 4))
        self.assertIs(accepts(claim, table), True)
        self.assertIs(accepts(claim, replaced(table, 1, ((0, (), 2, 0), 4))), False)
        self.assertIs(accepts(("lead", str(WHEEL), 0, 1, 4), table), False)

    def test_a_lead_begins_at_no_height_below_0(self):
        # Over a plate that is never ahead the heights may fall.
        text = str(Rule("plates 2 away 0", "take 1 to 1 back top kept"))
        self.assertIs(accepts(("lead", text, 1, 0, 0), (((0, (), 1, 0), 0),)), True)
        self.assertIs(accepts(("lead", text, 1, 0, 3), (((0, (), 1, 0), 3),)), True)
        self.assertIs(accepts(("lead", text, 1, 0, -1), (((0, (), 1, 0), -1),)), False)
        self.assertIs(accepts(("lead", text, 1, 0, 0), (((0, (), 1, 0), -1),)), False)
        text = str(Rule("plates 2 away 0", "take 1 to 1 back bottom kept"))
        self.assertIs(accepts(("lead", text, 1, 0, 0), (((0, (), 1, 0), 0), ((0, (), 0, 1), -1))), True)
        self.assertIs(accepts(("lead", text, 1, 0, 0), (((0, (), 1, 0), 0), ((0, (), 0, 1), -2))), False)

    def test_tables_of_pairs_of_sizes(self):
        text = "plates 4 away 1\ntake 1 to 2 back top kept"
        table = (((0, (0,)), 0), ((0, (1,)), 0), ((0, (2,)), 0))
        self.assertIs(accepts(("runs", text), table), True)
        for other in ((0, ()), (0, (1, 1)), (1, (1,)), (-1, (1,)), (0, (5,)), (0, (-1,)), (0, 1), (0, (True,)),
                      (False, (1,)), (0, [1]), [0, (1,)], (0,), (0, (1,), 0), ((0,), 1), (0, (None,)), None,
                      (GREAT, (1,)), (0, (GREAT,))):
            self.assertIs(accepts(("runs", text), replaced(table, 1, (other, 0))), False, other)
            self.assertIs(accepts(("runs", text), table + ((other, 0),)), False, other)

    def test_standings_with_plates_where_none_can_be(self):
        text = str(AWAY)
        for claim, table in right_papers(AWAY, of_search(AWAY)):
            if claim[0] not in ("rests", "lead"):
                continue
            for index in range(0, len(table), 3):
                key, height = table[index]
                row, sizes, *wheres = key
                lying = 4 - sum(sizes)
                for where in (lying, -1, GREAT, (0, sizes[0]), (1, sizes[1]), (2, 0), (-1, 0), (0, -1), (0,), (0, 0, 0),
                              [0, 0], (True, 0), (0, False), True, None, "0", (None, 0), ((0,), 0)):
                    for other in ((row, sizes, where, *wheres[1:]), (row, sizes, *wheres[:-1], where)):
                        self.assertIs(accepts(claim, replaced(table, index, (other, height))), False, other)
                        self.assertIs(accepts(claim, table + ((other, height),)), False, other)
        self.assertEqual(text, claim[1])

    def test_one_side_of_the_pile_is_told_as_a_place_the_other_as_a_pair(self):
        search = of_search(AWAY)
        table = table_of_rests(search, 3)
        self.assertEqual({key[2].__class__ for key, _ in table}, {int, tuple})
        self.assertIs(accepts(("rests", str(AWAY), 3, search.longest_rest(3)), table), True)


class AnyValuesTest(unittest.TestCase):
    def setUp(self):
        self.papers = [
            (("runs", str(AWAY)), table_of_sizes(of_search(AWAY))), (("out", str(OUT), (2, 2)), ()),
            (("rests", str(AWAY), 1, of_search(AWAY).longest_rest(1)), table_of_rests(of_search(AWAY), 1)),
            (("rested", str(WHEEL), 1, (2, 1, 1), 2), ()),
            (("lead", str(WHEEL), 0, 1, 1), table_of_leads(of_search(WHEEL), 0, 1)),
            (("ahead", str(WHEEL), 0, 2, (2,), 1), ()), (("endless", str(NEVER), 0, 2, (), (1,)), ())]
        for claim, certificate in self.papers:
            self.assertIs(accepts(claim, certificate), True)

    def test_values_of_any_kind_on_both_sides(self):
        values = of_all_kinds() + [WHEEL, "runs", ("runs",), ("runs", WHEEL), (str(WHEEL),), [("runs", str(WHEEL))]]
        for claim in values:
            for certificate in values:
                self.assertIs(accepts(claim, certificate), False)
        for claim, certificate in self.papers:
            for value in values:
                self.assertIs(accepts(value, certificate), False)
                if value != ():
                    self.assertIs(accepts(claim, value), False)

    def test_lists_in_the_place_of_tuples(self):
        for claim, certificate in self.papers:
            self.assertIs(accepts(list(claim), certificate), False)
            self.assertIs(accepts(claim, list(certificate)), False)
            for index in range(len(claim)):
                if isinstance(claim[index], tuple):
                    self.assertIs(accepts(replaced(claim, index, list(claim[index])), certificate), False)
            for index, (key, height) in enumerate(certificate):
                for other in ([key, height], (list(key), height), (replaced(key, 1, list(key[1])), height)):
                    self.assertIs(accepts(claim, replaced(certificate, index, other)), False)
                if len(key) > 2 and isinstance(key[2], tuple):
                    other = (replaced(key, 2, list(key[2])), height)
                    self.assertIs(accepts(claim, replaced(certificate, index, other)), False)

    def test_true_and_false_in_the_place_of_integers(self):
        for claim, certificate in self.papers:
            for index in range(2, len(claim)):
                if claim[index] in (0, 1):
                    self.assertIs(accepts(replaced(claim, index, bool(claim[index])), certificate), False)
                if isinstance(claim[index], tuple):
                    for at, number in enumerate(claim[index]):
                        if number == 1:
                            other = replaced(claim, index, replaced(claim[index], at, True))
                            self.assertIs(accepts(other, certificate), False)
            for index, (key, height) in enumerate(certificate):
                others = [(replaced(key, at, bool(key[at])), height) for at in range(len(key)) if key[at] in (0, 1)]
                others += [(key, bool(height))] if height in (0, 1) else []
                others += [(replaced(key, 1, replaced(key[1], at, bool(size))), height)
                           for at, size in enumerate(key[1]) if size in (0, 1)]
                for other in others:
                    self.assertIs(accepts(claim, replaced(certificate, index, other)), False)

    def test_other_values_in_each_place_of_a_claim(self):
        for claim, certificate in self.papers:
            for value in of_all_kinds():
                for index in range(2):
                    self.assertIs(accepts(replaced(claim, index, value), certificate), False)
            for index in range(2, len(claim)):
                for value in NO_INTEGERS if isinstance(claim[index], int) else NO_TUPLES:
                    self.assertIs(accepts(replaced(claim, index, value), certificate), False)
                if isinstance(claim[index], tuple):
                    for value in NO_INTEGERS + [-1, 9, GREAT]:
                        self.assertIs(accepts(replaced(claim, index, claim[index] + (value,)), certificate), False)
                        self.assertIs(accepts(replaced(claim, index, (value,) + claim[index]), certificate), False)

    def test_other_values_in_each_place_of_a_table(self):
        for claim, certificate in self.papers:
            for value in of_all_kinds():
                for index in range(0, len(certificate), 5):
                    key, height = certificate[index]
                    others = [value, (value, height), (key,), (key, height, value), key]
                    others += [(key, value)] if not isinstance(value, int) else []
                    for at in range(len(key)):
                        if value != key[at] and not (at != 1 and value.__class__ is int):
                            others.append((replaced(key, at, value), height))
                    for other in others:
                        self.assertIs(accepts(claim, replaced(certificate, index, other)), False, other)
                        self.assertIs(accepts(claim, certificate + (other,)), False, other)

    def test_what_is_true_is_accepted_alone(self):
        for rule in (WHEEL, NEVER, SWAP, AWAY, UNDER.with_row(2, "rest")):
            search = of_search(rule)
            for plate, most in itertools.product(range(rule.plates), range(8)):
                for other in range(rule.plates):
                    table = table_of_rests(search, other)
                    if table is not None and accepts(("rests", str(rule), plate, most), table):
                        self.assertLessEqual(search.longest_rest(plate), most)

    def test_equal_calls_and_what_is_passed(self):
        claim, certificate = self.papers[2]
        before = (repr(claim), repr(certificate))
        for _ in range(3):
            self.assertIs(accepts(claim, certificate), True)
            self.assertIs(accepts(claim, certificate[1:]), False)
        self.assertEqual((repr(claim), repr(certificate)), before)


if __name__ == "__main__":
    unittest.main()
