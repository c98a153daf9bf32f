"""Piles that are led by hand, and what becomes of a pile behind choices."""

from pileworn.checks import check_choices, check_mate, check_plate, check_rule, is_let
from pileworn.days import behind_day, numbers_let
from pileworn.errors import InvalidNumber, NothingToUndo, NotLet
from pileworn.kinds import is_integer


class Pile:
    """A pile that is led by hand, at first at the beginning."""

    def __init__(self, rule):
        check_rule(rule)
        self._rule = rule
        # The triples (pile, heaps, uses) at the beginning and behind each day so far.
        self._course = [(tuple(range(rule.plates)), ((),) * rule.away, (0,) * rule.plates)]

    def day(self, number):
        """Does the next day with this choice, and returns the plates that are used, from the top."""
        if not is_integer(number):
            raise InvalidNumber(number)
        if not is_let(number, self.lets):
            raise NotLet(number)
        pile, heaps, counts = self._course[-1]
        used = pile[:number]
        days = self._rule.days
        row = self.changes % len(days)
        pile, heaps = behind_day(days, row, pile, heaps, number)
        counts = tuple([counts[plate] + int(plate in used) for plate in range(len(counts))])
        self._course.append((pile, heaps, counts))
        return used

    def undo(self):
        """Takes back the last day that has not been taken back."""
        if len(self._course) == 1:
            raise NothingToUndo()
        self._course.pop()

    @property
    def rule(self):
        """The rule of the pile."""
        return self._rule

    @property
    def row(self):
        """The row of the next day, also if the pile has run out."""
        row = (len(self._course) - 1) % len(self._rule.days)
        return self._rule.rows[1 + row]

    @property
    def lets(self):
        """The pair of the least and the greatest number that is let, None if the pile has run out."""
        days = self._rule.days
        row = (len(self._course) - 1) % len(days)
        return numbers_let(days[row], len(self._course[-1][0]))

    @property
    def standing(self):
        """The plates in the pile, from the top."""
        return self._course[-1][0]

    @property
    def heaps(self):
        """The heaps that are away, the one that comes back first first, each from its top."""
        return self._course[-1][1]

    @property
    def uses(self):
        """The numbers of days on which the plates were used."""
        return self._course[-1][2]

    @property
    def changes(self):
        """The number of days so far."""
        return len(self._course) - 1


def led_pile(rule, choices):
    """The pile of this rule behind these choices; raises NotARule or InvalidChoices if they are none."""
    pile = Pile(rule)
    check_choices(rule, choices)
    for number in choices:
        pile.day(number)
    return pile


def led(rule, choices):
    """The pile's standing behind the choices."""
    return led_pile(rule, choices).standing


def course(rule, choices):
    """The plates that are used on each of the days, from the top."""
    pile = Pile(rule)
    check_choices(rule, choices)
    return tuple([pile.day(number) for number in choices])


def uses(rule, choices):
    """The numbers of days on which the plates are used."""
    return led_pile(rule, choices).uses


def rests(rule, plate, choices):
    """The greatest number of days one after another on none of which the plate is used."""
    check_rule(rule)
    check_plate(rule, plate)
    longest = days = 0
    for used in course(rule, choices):
        days = 0 if plate in used else days + 1
        longest = max(longest, days)
    return longest


def lead_in(rule, plate, mate, choices):
    """The number of days on which the plate was used less that of its mate."""
    check_rule(rule)
    check_plate(rule, plate)
    check_mate(rule, plate, mate)
    counts = uses(rule, choices)
    return counts[plate] - counts[mate]
