"""A plain search through whole states of the pile, written without the program: slow, and easy to believe.

A state is (index of the row of the next day, pile from the top, heaps that are away), a heap being the pair of the
index of the row of the day on which it was taken and its plates. For days before day 0 there are empty heaps.
"""

import itertools
import re
from fractions import Fraction

TAKE = re.compile(r"take (\d+) to (\d+) back (top|bottom|under (\d+)) (kept|turned)")


def first_state(rule):
    plates, away = [int(word) for word in rule.rows[0].split()[1::2]]
    return (0, tuple(range(plates)), ((None, ()),) * away)


def numbers(rule, state):
    """All numbers that are let, ascending."""
    row, pile, _ = state
    taken = TAKE.fullmatch(rule.rows[1 + row])
    if taken is None:
        return [0]
    return [number for number in range(int(taken[1]), int(taken[2]) + 1) if number <= len(pile)]


def next_state(rule, state, number):
    """The pair of the plates used and the state behind the day."""
    row, pile, heaps = state
    text = rule.rows[1 + row]
    left, heap = list(pile), []
    for _ in range(number):
        heap.append(left.pop(0))
    if text == "turn":
        left.reverse()
    elif text.startswith("cut"):
        many = int(text.split()[1])
        if len(left) > many:
            for _ in range(many):
                left.append(left.pop(0))
    waiting = list(heaps) + [(row, tuple(heap))]
    taken, back = waiting.pop(0)
    if back:
        _, _, where, depth, order = TAKE.fullmatch(rule.rows[1 + taken]).groups()
        at = {"top": 0, "bottom": len(left)}.get(where)
        if at is None:
            at = min(int(depth), len(left))
        for plate in (reversed(back) if order == "kept" else back):
            left.insert(at, plate)
    return tuple(heap), ((row + 1) % (len(rule.rows) - 1), tuple(left), tuple(waiting))


def walk(rule, choices):
    """The pair of the plates used day by day and the state behind the choices; None if they are no choices."""
    state, used = first_state(rule), []
    for number in choices:
        if number not in numbers(rule, state):
            return None
        plates, state = next_state(rule, state, number)
        used.append(plates)
    return tuple(used), state


def greatest_share(days, gain):
    """The greatest mean gain of a round, by Karp's theorem; days are the pairs (used, behind) of each state."""
    many = len(days)
    rows = [dict.fromkeys(days, 0)]
    for _ in range(many):
        row = {}
        for state in rows[-1]:
            for used, behind in days[state]:
                reached = rows[-1][state] + gain(used)
                row[behind] = max(reached, row.get(behind, reached))
        rows.append(row)
    return max(min(Fraction(rows[many][state] - rows[day][state], many - day)
                   for day in range(many) if state in rows[day]) for state in rows[many])


def shares(days, plate):
    """The least and the greatest share of the plate, as pairs."""
    least = -greatest_share(days, lambda used: -int(plate in used))
    greatest = greatest_share(days, lambda used: int(plate in used))
    return ((least.numerator, least.denominator), (greatest.numerator, greatest.denominator))


class Search:
    """All states that come behind choices, with their days; for each the least number of days to it."""

    def __init__(self, rule, most=None):
        first = first_state(rule)
        self.rule, self.plates = rule, len(first[1])
        self.days, self.least = {}, {first: 0}
        waiting = [first]
        for state in waiting:
            self.days[state] = []
            for number in numbers(rule, state):
                used, behind = next_state(rule, state, number)
                self.days[state].append((used, behind))
                if behind not in self.least:
                    self.least[behind] = self.least[state] + 1
                    waiting.append(behind)
            if most is not None and len(waiting) > most:
                raise OverflowError("more states than asked for")
        self.first = first
        self.steps = [(state, used, behind) for state in self.days for used, behind in self.days[state]]

    def days_to_the_end(self):
        """The least number of days behind which the pile has run out, None if it never has."""
        return min([self.least[state] for state in self.days if not self.days[state]], default=None)

    def longest(self, starts, gain):
        """For each state the greatest sum of gains on the way to it from one of the starts; None if one is endless."""
        best = dict.fromkeys(starts, 0)
        for _ in range(len(self.days) + 1):
            grown = False
            for state, used, behind in self.steps:
                worth = gain(used)
                if state in best and worth is not None and best[state] + worth > best.get(behind, -10 ** 9):
                    best[behind] = best[state] + worth
                    grown = True
            if not grown:
                return best
        return None

    def first_use(self, plate):
        soonest = min([self.least[state] + 1 for state, used, _ in self.steps if plate in used], default=None)
        unused = self.longest([self.first], lambda used: None if plate in used else 1)
        return soonest, None if unused is None else max(unused.values()) + 1

    def longest_rest(self, plate):
        unused = self.longest(list(self.days), lambda used: None if plate in used else 1)
        return None if unused is None else max(unused.values())

    def lead(self, plate, mate):
        best = self.longest([self.first], lambda used: (plate in used) - (mate in used))
        return None if best is None else max(best.values())

    def soonest_lead(self, plate, mate, by, most):
        """The least number of days, None if it takes more than so many."""
        best = {self.first: 0}
        for day in range(most + 1):
            if max(best.values()) >= by:
                return day
            beyond = {}
            for state in best:
                for used, behind in self.days[state]:
                    reached = best[state] + (plate in used) - (mate in used)
                    beyond[behind] = max(reached, beyond.get(behind, reached))
            best = beyond
        return None

    def shares(self, plate):
        return shares(self.days, plate)

    def places(self, plate):
        return tuple(sorted({pile.index(plate) for _, pile, _ in self.days if plate in pile}))

    def tops(self):
        return tuple(sorted({pile[0] for _, pile, _ in self.days if pile}))

    def how_many(self, days):
        counts = dict.fromkeys(self.days, 1)
        for _ in range(days):
            counts = {state: sum(counts[behind] for _, behind in self.days[state]) for state in self.days}
        return counts[self.first]


def days_to_parting(one, other):
    """The number of days of a shortest parting of two rules with as many plates, None if they never part."""
    front = [(first_state(one), first_state(other))]
    seen = set(front)
    for days in itertools.count():
        if not front:
            return None
        if any(numbers(one, state) != numbers(other, match) for state, match in front):
            return days
        beyond = []
        for state, match in front:
            for number in numbers(one, state):
                used, behind = next_state(one, state, number)
                also, beside = next_state(other, match, number)
                if set(used) != set(also):
                    return days + 1
                if (behind, beside) not in seen:
                    seen.add((behind, beside))
                    beyond.append((behind, beside))
        front = beyond


def parts(one, other, choices):
    """Whether the rules part behind these choices, or on the last day of them."""
    mine, theirs = walk(one, choices), walk(other, choices)
    if mine is None or theirs is None:
        return False
    if numbers(one, mine[1]) != numbers(other, theirs[1]):
        return True
    return bool(choices) and set(mine[0][-1]) != set(theirs[0][-1])
