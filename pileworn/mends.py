"""Wishes for rules, and the exchanges of rows that make them hold."""

from itertools import combinations

from pileworn.asking import lead, longest_rest, parting, runs_out, worn
from pileworn.checks import check_rule
from pileworn.errors import InvalidExchanges, InvalidRows, InvalidWish, InvalidWishes, RunsOut
from pileworn.kinds import integer_within, is_integer
from pileworn.limits import MOST_EXCHANGES
from pileworn.rules import Rule

# How many plates stand between the word of a wish and its number.
PLATES_TOLD = {"rest": 1, "lead": 2, "worn": 0}


def is_wish(value):
    """Whether this is a wish."""
    if not isinstance(value, tuple) or len(value) == 0 or not isinstance(value[0], str):
        return False
    word, *told = value
    if word == "runs":
        return len(told) == 0
    if word == "alike":
        return len(told) == 1 and isinstance(told[0], Rule)
    if word not in PLATES_TOLD or len(told) != PLATES_TOLD[word] + 1:
        return False
    if [number for number in told if not is_integer(number) or number < 0]:
        return False
    return word != "lead" or told[0] != told[1]


def number_wished(rule, word, plates):
    """The number that a wish with this word bounds, None if there is no greatest."""
    if word == "rest":
        return longest_rest(rule, plates[0])
    if word == "lead":
        return lead(rule, plates[0], plates[1])
    return worn(rule)


def bound_shown(rule, word, plates, most):
    """None if the number that is wished to be at most so great is, otherwise what shows that it is not."""
    if [plate for plate in plates if plate >= rule.plates]:
        return "plates"
    try:
        number = number_wished(rule, word, plates)
    except RunsOut:
        return "out"
    if number is None:
        return "ever"
    return number if number > most else None


def shown_of(rule, wish):
    """None if the wish holds for the rule, otherwise what shows that it does not."""
    if wish[0] == "runs":
        return runs_out(rule)
    if wish[0] == "alike":
        return parting(rule, wish[1])
    word, *plates, most = wish
    return bound_shown(rule, word, plates, most)


def fault(rule, wish):
    """None if the wish holds for the rule, otherwise what shows that it does not."""
    check_rule(rule)
    if not is_wish(wish):
        raise InvalidWish(wish)
    return shown_of(rule, wish)


def is_exchange(rule, value):
    """Whether this is a pair of the index of a row of the rule and a string that is to stand in its place."""
    if not isinstance(value, tuple) or len(value) != 2:
        return False
    return integer_within(value[0], 0, len(rule.rows) - 1) and isinstance(value[1], str)


def check_exchanges(rule, exchanges):
    """Raises InvalidExchanges if these are no exchanges of rows of the rule."""
    if not isinstance(exchanges, tuple) or len(exchanges) > MOST_EXCHANGES:
        raise InvalidExchanges(None)
    for index in range(len(exchanges)):
        if not is_exchange(rule, exchanges[index]):
            raise InvalidExchanges(index)


def check_wishes(wishes):
    """Raises InvalidWishes if these are no wishes."""
    if not isinstance(wishes, tuple):
        raise InvalidWishes(None)
    for index in range(len(wishes)):
        if not is_wish(wishes[index]):
            raise InvalidWishes(index)


def mended(rule, lot):
    """The rule with all of these exchanges, None if there is no such rule."""
    rows = list(rule.rows)
    indexes = set()
    for index, row in lot:
        rows[index] = row
        indexes.add(index)
    if len(indexes) < len(lot):
        return None
    try:
        return Rule(*rows)
    except InvalidRows:
        return None


def mends(rule, lot, wishes):
    """Whether these exchanges make a rule for which all wishes hold."""
    other = mended(rule, lot)
    if other is None:
        return False
    for wish in wishes:
        if shown_of(other, wish) is not None:
            return False
    return True


def goes_beyond(lot, least):
    """Whether all of one of the least lots stands in this one."""
    for some in least:
        if not [index for index in some if index not in lot]:
            return True
    return False


def mending(rule, exchanges, wishes):
    """All least lots of exchanges with which all wishes hold, as tuples of indexes, shorter ones first."""
    check_rule(rule)
    check_exchanges(rule, exchanges)
    check_wishes(wishes)
    least = []
    for size in range(len(exchanges) + 1):
        for lot in combinations(range(len(exchanges)), size):
            # What goes beyond a lot that mends is no least one, whether it mends or not.
            if not goes_beyond(lot, least) and mends(rule, [exchanges[index] for index in lot], wishes):
                least.append(lot)
    return tuple(least)
