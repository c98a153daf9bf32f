"""Which choices fit what was seen."""

from pileworn.checks import check_rule, check_within
from pileworn.days import behind_day, numbers_let
from pileworn.errors import InvalidSeen
from pileworn.kinds import integer_within
from pileworn.limits import MOST_SEEN


def is_sight(rule, days, sight):
    """Whether this is a triple (day, plate, used) of a day below so many, a plate of the rule, and True or False."""
    if not isinstance(sight, tuple) or len(sight) != 3:
        return False
    day, plate, used = sight
    return integer_within(day, 0, days - 1) and integer_within(plate, 0, rule.plates - 1) and isinstance(used, bool)


def check_seen(rule, days, seen):
    """Raises what is wrong with this rule, with so many days, or with what was seen on them."""
    check_rule(rule)
    check_within(days, 0, MOST_SEEN)
    if not isinstance(seen, tuple):
        raise InvalidSeen(None)
    for index in range(len(seen)):
        if not is_sight(rule, days, seen[index]):
            raise InvalidSeen(index)


def days_that_fit(rule, pile, day, sights):
    """The ascending numbers that are let on this day and with which the plates are used, or not, as in the sights."""
    lets = numbers_let(rule.days[day % len(rule.days)], len(pile))
    if lets is None:
        return []
    told = [(plate, used) for seen_on, plate, used in sights if seen_on == day]
    found = []
    for number in range(lets[0], lets[1] + 1):
        unlike = [plate for plate, used in told if (plate in pile[:number]) != used]
        if not unlike:
            found.append(number)
    return found


def courses_seen(rule, days, seen):
    """The pairs of choices that fit, ascending, and the standing of the pile behind them."""
    check_seen(rule, days, seen)
    courses = [((), tuple(range(rule.plates)), ((),) * rule.away)]
    for day in range(days):
        row = day % len(rule.days)
        beyond = []
        for choices, pile, heaps in courses:
            for number in days_that_fit(rule, pile, day, seen):
                behind, away = behind_day(rule.days, row, pile, heaps, number)
                beyond.append(((*choices, number), behind, away))
        courses = beyond
    return [(choices, pile) for choices, pile, heaps in courses]


def choices_seen(rule, days, seen):
    """All choices for so many days with which all is so that was seen, ascending."""
    return tuple([choices for choices, pile in courses_seen(rule, days, seen)])


def numbers_seen(rule, days, seen):
    """For each day the ascending numbers that the choices that fit have on it, None if there are no such choices."""
    found = choices_seen(rule, days, seen)
    if not found:
        return None
    return tuple([tuple(sorted(set([choices[day] for choices in found]))) for day in range(days)])


def standings_seen(rule, days, seen):
    """The ascending standings of the pile behind the choices that fit, each once."""
    return tuple(sorted(set([pile for choices, pile in courses_seen(rule, days, seen)])))
