"""Whether what is passed as a rule, a number, a plate or choices is such."""

from pileworn.days import numbers_let
from pileworn.errors import InvalidChoices, InvalidNumber, InvalidPlate, NotARule
from pileworn.kinds import integer_within, is_integer
from pileworn.rules import Rule


def check_rule(rule):
    """Raises NotARule if this is no rule."""
    if not isinstance(rule, Rule):
        raise NotARule(rule)


def check_within(number, least, most):
    """Raises InvalidNumber if this is no integer from least to most."""
    if not integer_within(number, least, most):
        raise InvalidNumber(number)


def check_at_least(number, least):
    """Raises InvalidNumber if this is no integer of at least so much."""
    if not is_integer(number) or number < least:
        raise InvalidNumber(number)


def check_plate_of(many, plate):
    """Raises InvalidPlate if this is none of so many plates."""
    if not integer_within(plate, 0, many - 1):
        raise InvalidPlate(plate)


def check_mate_of(many, plate, mate):
    """Raises InvalidPlate if the mate is none of so many plates, or the same one as the plate."""
    check_plate_of(many, mate)
    if mate == plate:
        raise InvalidPlate(mate)


def check_plate(rule, plate):
    """Raises InvalidPlate if this is no plate of the rule."""
    check_plate_of(rule.plates, plate)


def check_mate(rule, plate, mate):
    """Raises InvalidPlate if the mate is no plate of the rule, or the same one as the plate."""
    check_mate_of(rule.plates, plate, mate)


def is_let(number, lets):
    """Whether the value is an integer that is let, lets being the pair of the least and the greatest one, or None."""
    return lets is not None and is_integer(number) and lets[0] <= number <= lets[1]


def check_choices(rule, choices):
    """Raises InvalidChoices if these are no choices for the rule."""
    if not isinstance(choices, tuple):
        raise InvalidChoices(None)
    sizes = (0,) * rule.away
    for index in range(len(choices)):
        day = rule.days[index % len(rule.days)]
        if not is_let(choices[index], numbers_let(day, rule.plates - sum(sizes))):
            raise InvalidChoices(index)
        sizes = (*sizes, choices[index])[1:]
