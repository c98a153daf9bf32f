"""A console: a rule that is asked in lines of words.

Each word that begins a line has a function that is passed the rule and the list of the words behind it. It returns the
answer, or None if these words do not go with it.
"""

from pileworn.asking import first_use, how_many, lead, longest_rest, places, runs_out, shares, worn
from pileworn.checks import check_rule
from pileworn.errors import InvalidChoices, InvalidText, RunsOut
from pileworn.piles import course, led
from pileworn.words import read_digits, read_number


def read_plates(rule, words, many):
    """The list of so many different plates that the words tell, None if they tell none."""
    plates = [read_number(word, 0, rule.plates - 1) for word in words]
    if len(plates) != many or None in plates or len(set(plates)) < many:
        return None
    return plates


def read_choices(words):
    """The tuple of one number or more that the words tell, None if they tell none."""
    numbers = [read_digits(word) for word in words]
    if not numbers or None in numbers:
        return None
    return tuple(numbers)


def spaced(numbers):
    """The numbers with spaces between."""
    return " ".join([str(number) for number in numbers])


def bounded(number):
    """The greatest number, in words if there is none."""
    return "no end" if number is None else str(number)


def tell_row(rule, words):
    """The row with this index."""
    index = read_number(words[0], 0, len(rule.rows) - 1) if len(words) == 1 else None
    return None if index is None else rule.rows[index]


def tell_runs(rule, words):
    """Whether the pile runs out."""
    if words:
        return None
    shown = runs_out(rule)
    return "ever" if shown is None else f"out behind {len(shown)} days"


def tell_first(rule, words):
    """In how many days the plate is used first, soonest and at the latest."""
    plates = read_plates(rule, words, 1)
    if plates is None:
        return None
    soonest, latest = first_use(rule, plates[0])
    if soonest is None:
        return "never"
    return f"{soonest} to never" if latest is None else f"{soonest} to {latest}"


def tell_rest(rule, words):
    """The longest rest of the plate."""
    plates = read_plates(rule, words, 1)
    return None if plates is None else bounded(longest_rest(rule, plates[0]))


def tell_lead(rule, words):
    """The greatest lead of the first plate over the second one."""
    plates = read_plates(rule, words, 2)
    return None if plates is None else bounded(lead(rule, plates[0], plates[1]))


def tell_worn(rule, words):
    """The greatest lead of any plate."""
    return None if words else bounded(worn(rule))


def tell_shares(rule, words):
    """The least and the greatest share of the plate."""
    plates = read_plates(rule, words, 1)
    if plates is None:
        return None
    least, greatest = shares(rule, plates[0])
    return f"{least[0]}/{least[1]} to {greatest[0]}/{greatest[1]}"


def tell_places(rule, words):
    """The places that the plate can have."""
    plates = read_plates(rule, words, 1)
    return None if plates is None else spaced(places(rule, plates[0]))


def tell_many(rule, words):
    """The number of choices for so many days."""
    days = read_number(words[0], 0, 400) if len(words) == 1 else None
    return None if days is None else str(how_many(rule, days))


def tell_day(rule, words):
    """The plates that are used on the last day of the choices."""
    choices = read_choices(words)
    if choices is None:
        return None
    try:
        used = course(rule, choices)
    except InvalidChoices:
        return "not let"
    return spaced(used[-1]) or "none"


def tell_pile(rule, words):
    """The plates that lie in the pile behind the choices."""
    choices = read_choices(words)
    if choices is None:
        return None
    try:
        return spaced(led(rule, choices)) or "none"
    except InvalidChoices:
        return "not let"


LINES = {
    "row": tell_row, "runs": tell_runs, "first": tell_first, "rest": tell_rest, "lead": tell_lead, "worn": tell_worn,
    "shares": tell_shares, "places": tell_places, "many": tell_many, "day": tell_day, "pile": tell_pile,
}


def answer_to(rule, line):
    """The answer to the line, None if it is no line that is answered."""
    if not isinstance(line, str):
        return None
    words = line.split(" ")
    if words[0] not in LINES:
        return None
    tell = LINES[words[0]]
    try:
        return tell(rule, words[1:])
    except RunsOut:
        return "out"


class Console:
    """A rule that is asked."""

    def __init__(self, rule):
        check_rule(rule)
        self._rule = rule

    @property
    def rule(self):
        """The rule that is asked."""
        return self._rule

    def say(self, line):
        """The answer to the line."""
        answer = answer_to(self._rule, line)
        if answer is None:
            raise InvalidText(line)
        return answer
