import itertools
import random
import unittest
from fractions import Fraction
from math import gcd

from pileworn import asking
from pileworn.errors import InvalidNumber, InvalidPlate, InvalidTakes
from pileworn.piles import uses
from pileworn.rings import ring_lead, ring_rest, ring_shares, ring_uses
from pileworn.rules import Rule
from tests import plain
from tests.cases import NO_INTEGERS, NO_TUPLES, RaisingTestCase
from tests.values import of_all_kinds

GREAT = 10 ** 30
GREATEST = 10 ** 40 - 1


class PlainRing:
    """All piles of a small ring that come behind choices, gone through plate by plate."""

    def __init__(self, n, takes):
        self.plates = range(n)
        self.takes = takes
        self.first = (0, tuple(range(n)))
        self.days, waiting = {}, [self.first]
        for state in waiting:
            if state not in self.days:
                self.days[state] = list(self.days_from(state))
                waiting += [behind for _, behind in self.days[state]]

    def days_from(self, state):
        row, pile = state
        for number in range(self.takes[row][0], self.takes[row][1] + 1):
            left, heap = list(pile), []
            for _ in range(number):
                heap.append(left.pop(0))
            yield tuple(heap), ((row + 1) % len(self.takes), tuple(left + heap))

    def rest_of(self, plate):
        alive = set(self.days)
        for days in range(len(self.days) + 1):
            alive = {behind for state in alive for used, behind in self.days[state] if plate not in used}
            if not alive:
                return days
        return None

    def rest(self):
        longest = [self.rest_of(plate) for plate in self.plates]
        return None if None in longest else max(longest)

    def lead(self, plate, mate):
        found, waiting = set(), [(self.first, 0)]
        while waiting:
            state, lead = waiting.pop()
            if (state, lead) not in found:
                found.add((state, lead))
                for used, behind in self.days[state]:
                    waiting.append((behind, lead + (plate in used) - (mate in used)))
        return max(lead for _, lead in found)


def pairs(n):
    return [(least, most) for least in range(n + 1) for most in range(least, n + 1)]


def small_rings():
    """Rings of one to nine plates with one to three pairs: all with one, some with more, more of them narrow ones."""
    chooser = random.Random(20261120)
    for n in range(1, 10):
        for pair in pairs(n):
            yield n, (pair,)
        for many in (2, 2, 2, 3, 3, 3):
            for _ in range(12):
                yield n, tuple(chooser.choice(pairs(n)) for _ in range(many))
                leasts = [chooser.randint(0, n) for _ in range(many)]
                yield n, tuple((least, min(n, least + chooser.choice((0, 0, 0, 1)))) for least in leasts)


class ExamplesTest(unittest.TestCase):
    def test_examples_of_the_document(self):
        self.assertEqual(
            [ring_uses(3, 4, 0), ring_uses(3, 4, 1), ring_uses(10 ** 30, 10 ** 31 + 5, 4), ring_rest(3, ((1, 2),)),
             ring_rest(10, ((1, 2), (3, 3))), ring_rest(10 ** 30, ((1, 2), (3, 3))), ring_rest(2, ((0, 1),))],
            [2, 1, 11, 2, 5, 499999999999999999999999999999, None])
        self.assertEqual(
            [ring_shares(10, ((1, 2), (3, 3))), ring_lead(10, ((1, 2), (3, 3)), 0, 9), ring_lead(10, ((5, 5),), 0, 4),
             ring_lead(10, ((5, 5),), 4, 5), ring_lead(10, ((5, 5),), 9, 0)],
            [((1, 5), (1, 4)), 1, 0, 1, 0])


class CountingTest(unittest.TestCase):
    def test_uses_counted_round_the_ring(self):
        for n in range(1, 10):
            for total in range(0, 40):
                for plate in range(n):
                    counted = len([taken for taken in range(total) if taken % n == plate])
                    self.assertEqual(ring_uses(n, total, plate), counted, (n, total, plate))

    def test_rests_gone_through_day_by_day(self):
        rests = set()
        for n, takes in small_rings():
            rest = ring_rest(n, takes)
            self.assertEqual(rest, PlainRing(n, takes).rest(), (n, takes))
            rests.add(rest)
        self.assertTrue({None, 0, 1, 2, 3, 4, 5, 6, 7, 8} <= rests)

    def test_leads_gone_through_day_by_day(self):
        for n, takes in small_rings():
            ring = PlainRing(n, takes)
            for plate, mate in itertools.permutations(range(n), 2):
                if n < 7 or (plate, mate) in ((0, 1), (1, 4), (5, 6), (4, n - 1), (0, n - 1), (n - 1, 0), (3, 2)):
                    self.assertEqual(ring_lead(n, takes, plate, mate), ring.lead(plate, mate), (n, takes, plate, mate))

    def test_shares_in_lowest_terms(self):
        for n, takes in itertools.islice(small_rings(), 0, None, 3):
            if n * len(takes) <= 16:
                ring, shares = PlainRing(n, takes), ring_shares(n, takes)
                for plate in {0, n // 2, n - 1}:
                    self.assertEqual(shares, plain.shares(ring.days, plate), (n, takes, plate))
        for n, takes in small_rings():
            for number, parts in ring_shares(n, takes):
                self.assertEqual((gcd(number, parts), parts > 0), (1, True))


class RulesTest(unittest.TestCase):
    """Rings beside the rules that tell them."""

    def some_rings(self):
        chooser = random.Random(20261121)
        for n in (2, 3, 4, 5, 7, 10):
            for many in (1, 1, 2, 3, 6):
                leasts = [chooser.randint(0, min(n, 6)) for _ in range(many)]
                takes = tuple((least, min(n, 6, least + chooser.choice((0, 0, 1, 3)))) for least in leasts)
                rows = [f"take {least} to {most} back bottom kept" for least, most in takes]
                yield n, takes, Rule(f"plates {n} away 0", *rows)

    def test_rests_shares_and_leads(self):
        for n, takes, rule in self.some_rings():
            rests = [asking.longest_rest(rule, plate) for plate in range(n)]
            self.assertEqual(ring_rest(n, takes), None if None in rests else max(rests), rule.rows)
            for plate in range(n):
                self.assertEqual(ring_shares(n, takes), asking.shares(rule, plate), rule.rows)
                for mate in range(n):
                    if mate != plate:
                        self.assertEqual(ring_lead(n, takes, plate, mate), asking.lead(rule, plate, mate), rule.rows)

    def test_uses_behind_choices(self):
        for n, takes, rule in self.some_rings():
            for at in (0, 1):
                choices = tuple(takes[day % len(takes)][at] for day in range(25))
                told = tuple(ring_uses(n, sum(choices), plate) for plate in range(n))
                self.assertEqual(told, uses(rule, choices), rule.rows)


class EdgesTest(unittest.TestCase):
    def test_one_plate_alone(self):
        self.assertEqual([ring_uses(1, total, 0) for total in (0, 1, 7, GREATEST)], [0, 1, 7, GREATEST])
        rings = (((1, 1),), ((0, 1),), ((0, 0), (1, 1)), ((0, 1),) * 5 + ((1, 1),))
        self.assertEqual([ring_rest(1, takes) for takes in rings], [0, None, 1, 5])
        self.assertEqual([ring_shares(1, takes) for takes in rings[:3]],
                         [((1, 1), (1, 1)), ((0, 1), (1, 1)), ((1, 2), (1, 2))])

    def test_none_and_all(self):
        for n in (2, 9, GREAT, GREATEST):
            none, whole, free = ((0, 0),), ((n, n),), ((0, n),)
            self.assertEqual([ring_rest(n, takes) for takes in (none, whole, free, whole + none)], [None, 0, None, 1])
            self.assertEqual([ring_shares(n, takes) for takes in (none, whole, free)],
                             [((0, 1), (0, 1)), ((1, 1), (1, 1)), ((0, 1), (1, 1))])
            self.assertEqual([ring_lead(n, takes, 0, n - 1) for takes in (none, whole, free)], [0, 0, 1])
            self.assertEqual([ring_lead(n, takes, n - 1, 0) for takes in (none, whole, free)], [0, 0, 0])
            self.assertEqual([ring_uses(n, total, 0) for total in (0, 1, n, n + 1)], [0, 1, 1, 2])
            self.assertEqual([ring_uses(n, total, n - 1) for total in (0, 1, n - 1, n, 2 * n)], [0, 0, 0, 1, 2])

    def test_kinds_of_values(self):
        told = [ring_uses(3, 4, 0), ring_rest(3, ((1, 2),)), ring_lead(3, ((1, 2),), 0, 1)]
        told += [number for fraction in ring_shares(3, ((1, 2),)) for number in fraction]
        self.assertEqual({value.__class__ for value in told}, {int})
        shares = ring_shares(3, ((1, 2),))
        self.assertEqual({value.__class__ for value in (shares, *shares)}, {tuple})

    def test_by_name_and_again(self):
        for _ in range(2):
            self.assertEqual(ring_uses(plate=1, total=4, n=3), 1)
            self.assertEqual(ring_rest(takes=((1, 2), (3, 3)), n=10), 5)
            self.assertEqual(ring_shares(takes=((1, 2), (3, 3)), n=10), ((1, 5), (1, 4)))
            self.assertEqual(ring_lead(mate=5, plate=4, takes=((5, 5),), n=10), 1)


class GreatTest(unittest.TestCase):
    """What is so for all rings, however great."""

    def great_rings(self):
        chooser = random.Random(20261122)
        for n in (GREAT, GREAT + 1, 2 ** 99, 3 ** 60, 6 ** 40, GREATEST):
            for many in (1, 2, 3, 6):
                for wide in (0, 1, n // 7):
                    leasts = [chooser.choice((0, 1, 2, 6, n // 12, chooser.randrange(n))) for _ in range(many)]
                    yield n, tuple((least, min(n, least + wide)) for least in leasts)

    def test_uses_of_neighbours_and_sums(self):
        for n in (GREAT, 2 ** 99, GREATEST):
            for total in (0, 1, n - 1, n, n + 1, 5 * n + 3, GREATEST, GREATEST ** 2):
                for plate in (0, 1, 2, 3, n // 2, n - 2):
                    step = ring_uses(n, total, plate) - ring_uses(n, total, plate + 1)
                    self.assertEqual(step, 1 if total % n == plate + 1 else 0, (n, total, plate))
                self.assertEqual(ring_uses(n, total + n, 5), ring_uses(n, total, 5) + 1)
                self.assertEqual(ring_uses(n, total, 0), -(-total // n))
        for n in (1, 2, 7, 50):
            for total in (GREAT, GREATEST, 7 * 10 ** 45 + 3):
                self.assertEqual(sum(ring_uses(n, total, plate) for plate in range(n)), total)

    def test_pairs_told_twice(self):
        for n, takes in self.great_rings():
            if len(takes) <= 3:
                twice = takes + takes
                self.assertEqual(ring_rest(n, twice), ring_rest(n, takes))
                self.assertEqual(ring_shares(n, twice), ring_shares(n, takes))
                for plate, mate in ((0, 1), (5, n - 1), (n - 1, 5), (n // 3, n // 2)):
                    self.assertEqual(ring_lead(n, twice, plate, mate), ring_lead(n, takes, plate, mate))

    def test_rows_begun_with_another_one(self):
        for n, takes in self.great_rings():
            for first in range(len(takes)):
                begun = takes[first:] + takes[:first]
                self.assertEqual(ring_rest(n, begun), ring_rest(n, takes))
                self.assertEqual(ring_shares(n, begun), ring_shares(n, takes))

    def test_rests_are_just_the_days_in_which_all_others_are_taken(self):
        for n, takes in self.great_rings():
            rest, leasts = ring_rest(n, takes), [least for least, _ in takes]
            if sum(leasts) == 0:
                self.assertIsNone(rest)
                continue
            rounds, more = divmod(rest, len(leasts))
            taken = min(sum((leasts + leasts)[first:first + more]) for first in range(len(leasts)))
            self.assertLessEqual(rounds * sum(leasts) + taken, n - 1)
            rounds, more = divmod(rest + 1, len(leasts))
            taken = min(sum((leasts + leasts)[first:first + more]) for first in range(len(leasts)))
            self.assertGreater(rounds * sum(leasts) + taken, n - 1)

    def test_shares_of_a_plate_of_many(self):
        for n, takes in self.great_rings():
            for at in (0, 1):
                share = Fraction(sum(pair[at] for pair in takes), n * len(takes))
                self.assertEqual(ring_shares(n, takes)[at], (share.numerator, share.denominator))

    def test_leads_by_the_numbers_that_can_be_taken(self):
        # With one pair of equal numbers just the multiples of their common divisor come on top.
        for n, number in ((6 ** 40, 4 ** 20), (GREAT, 5 ** 30), (GREAT, 3), (2 ** 99, 2 ** 99 - 2 ** 50)):
            step = gcd(n, number)
            for plate in (0, step - 1, step, 7 * step + step // 2):
                for mate in (plate + 1, plate + step - 1, plate + step, n - 1):
                    if plate < mate < n:
                        told = ring_lead(n, ((number, number),), plate, mate)
                        self.assertEqual(told, int(mate // step > plate // step), (n, number, plate, mate))
        # A second row moves the tops by what the first one takes.
        for plate, mate, lead in ((0, 1, 0), (1, 2, 0), (2, 3, 1), (3, 9, 0), (3, 10, 1), (9, 10, 1), (10, 12, 0),
                                  (12, 13, 1)):
            self.assertEqual(ring_lead(GREAT, ((3, 3), (7, 7)), plate, mate), lead, (plate, mate))
        self.assertEqual(ring_lead(GREAT, ((3, 3), (6, 7)), 10, 11), 1)

    def test_one_more_plate_taken_some_day_reaches_all(self):
        for n, takes in self.great_rings():
            if sum(least for least, _ in takes) < sum(most for _, most in takes):
                for plate in (0, 7, n // 2, n - 2):
                    self.assertEqual(ring_lead(n, takes, plate, plate + 1), 1)
                    self.assertEqual(ring_lead(n, takes, plate + 1, plate), 0)


class ErrorsTest(RaisingTestCase):
    def test_no_number_of_plates(self):
        for value in NO_INTEGERS + [0, -1, -GREATEST]:
            for more in ((4, 0), (None, None), (-1, 5)):
                self.assert_raised(InvalidNumber, "given", value, ring_uses, value, *more)
            for takes in (((0, 1),), None, ()):
                self.assert_raised(InvalidNumber, "given", value, ring_rest, value, takes)
                self.assert_raised(InvalidNumber, "given", value, ring_shares, value, takes)
                self.assert_raised(InvalidNumber, "given", value, ring_lead, value, takes, 5, 5)
                self.assert_raised(InvalidNumber, "given", value, ring_lead, mate=0, plate=1, takes=takes, n=value)

    def test_no_total(self):
        for value in NO_INTEGERS + [-1, -GREATEST]:
            for plate in (0, 3, None):
                self.assert_raised(InvalidNumber, "given", value, ring_uses, 3, value, plate)
                self.assert_raised(InvalidNumber, "given", value, ring_uses, n=3, total=value, plate=plate)

    def assert_no_takes(self, index, n, takes):
        self.assert_raised(InvalidTakes, "index", index, ring_rest, n, takes)
        self.assert_raised(InvalidTakes, "index", index, ring_shares, n, takes)
        for plate, mate in ((0, 1), (0, 0), (None, None)):
            self.assert_raised(InvalidTakes, "index", index, ring_lead, n, takes, plate, mate)

    def test_no_tuple_of_one_to_six(self):
        for value in NO_TUPLES + [[(1, 1)], (), ((1, 1),) * 7, ((1, 1),) * 8, (None,) * 7]:
            self.assert_no_takes(None, 3, value)
        self.assertEqual(ring_rest(3, ((1, 1),) * 6), 2)

    def test_the_first_that_is_no_pair(self):
        wrong = of_all_kinds() + [
            (1,), (1, 2, 3), [1, 2], (2, 1), (-1, 1), (0, 4), (4, 4), (-2, -1), (None, 1), (1, "2"), (True, 2), (0, True),
            (False, False), (1, (2,)), ((1, 2),), GREATEST, (0, GREATEST)]
        for value in wrong:
            self.assert_no_takes(0, 3, (value,))
            self.assert_no_takes(1, 3, ((0, 3), value))
            self.assert_no_takes(2, 3, ((0, 0), (3, 3), value, None, (9, 9)))
            self.assert_no_takes(5, 3, ((0, 0),) * 5 + (value,))

    def test_most_are_as_many_as_plates(self):
        for n in (1, 2, 7, GREAT):
            self.assertEqual(ring_rest(n, ((n, n),)), 0)
            self.assert_no_takes(0, n, ((n, n + 1),))
            self.assert_no_takes(1, n, ((0, n), (n + 1, n + 1)))

    def test_no_plate_and_no_mate(self):
        for value in NO_INTEGERS + [-1, 3, 4, -GREATEST, GREATEST]:
            self.assert_raised(InvalidPlate, "given", value, ring_uses, 3, 4, value)
            for mate in (0, 3, None, value):
                self.assert_raised(InvalidPlate, "given", value, ring_lead, 3, ((1, 2),), value, mate)
            for plate in (0, 2):
                self.assert_raised(InvalidPlate, "given", value, ring_lead, 3, ((1, 2),), plate, value)
                self.assert_raised(InvalidPlate, "given", value, ring_lead, 3, ((1, 2),), plate=plate, mate=value)

    def test_the_same_plate_is_no_mate(self):
        for n in (1, 3, GREAT):
            for plate in {0, n - 1}:
                self.assert_raised(InvalidPlate, "given", plate, ring_lead, n, ((0, 1),), plate, plate)
        self.assert_raised(InvalidPlate, "given", 1, ring_lead, 1, ((0, 1),), 0, 1)
        self.assert_raised(InvalidPlate, "given", GREAT, ring_lead, GREAT, ((0, 1),), 0, GREAT)
        self.assertEqual(ring_lead(GREAT, ((0, 1),), 0, GREAT - 1), 1)


if __name__ == "__main__":
    unittest.main()
