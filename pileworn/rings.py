"""Rings: piles with any number of plates that are gone round, as what is taken comes back at the bottom.

If t plates have been taken in all, the plate with the number of the rest of t by n lies on top.
"""

from math import gcd

from pileworn.checks import check_at_least, check_mate_of, check_plate_of
from pileworn.errors import InvalidTakes
from pileworn.kinds import is_integer
from pileworn.limits import MOST_DAYS


def is_take(n, pair):
    """Whether this is a pair of the least and the greatest number that is taken on a day, of n plates."""
    if not isinstance(pair, tuple) or len(pair) != 2:
        return False
    return is_integer(pair[0]) and is_integer(pair[1]) and 0 <= pair[0] <= pair[1] <= n


def check_takes(n, takes):
    """Raises InvalidTakes if these are no rows of days of a ring of n plates."""
    if not isinstance(takes, tuple) or not 1 <= len(takes) <= MOST_DAYS:
        raise InvalidTakes(None)
    for index in range(len(takes)):
        if not is_take(n, takes[index]):
            raise InvalidTakes(index)


def sums_of(takes):
    """The pair of the least and the greatest number of plates that are taken while all rows are gone through once."""
    return (sum([least for least, most in takes]), sum([most for least, most in takes]))


def days_within(numbers, left):
    """The number of days, from the first one, on which in all no more than so many are taken."""
    days = 0
    for number in numbers:
        left = left - number
        if left < 0:
            break
        days = days + 1
    return days


def ring_uses(n, total, plate):
    """The uses of the plate if so many plates have been taken in all."""
    check_at_least(n, 1)
    check_at_least(total, 0)
    check_plate_of(n, plate)
    return (total - plate + n - 1) // n


def ring_rest(n, takes):
    """The greatest number of days for which some plate rests in some choices, None if there is no greatest."""
    check_at_least(n, 1)
    check_takes(n, takes)
    leasts = [least for least, most in takes]
    if sum(leasts) == 0:
        return None
    # Longest rests the plate at the bottom, while no more than the others are taken, as few a day as can be.
    rounds, left = divmod(n - 1, sum(leasts))
    days = [days_within(leasts[first:] + leasts[:first], left) for first in range(len(leasts))]
    return rounds * len(leasts) + max(days)


def lowest_terms(number, parts):
    """The fraction with this worth."""
    common = gcd(number, parts)
    return (number // common, parts // common)


def ring_shares(n, takes):
    """The least and the greatest share that rounds of a plate's standings have, the same for all plates."""
    check_at_least(n, 1)
    check_takes(n, takes)
    # A round takes a multiple of n plates, each one equally often; going through the rows n times can be a round.
    least, most = sums_of(takes)
    return (lowest_terms(least, n * len(takes)), lowest_terms(most, n * len(takes)))


def ring_lead(n, takes, plate, mate):
    """The greatest lead of the plate over its mate behind any choices."""
    check_at_least(n, 1)
    check_takes(n, takes)
    check_plate_of(n, plate)
    check_mate_of(n, plate, mate)
    # The plate leads, by 1, just while the one on top comes behind it and not behind its mate.
    if plate > mate:
        return 0
    least, most = sums_of(takes)
    if least < most:
        # The numbers that can have been taken in all reach farther and farther apart, so each plate comes on top.
        return 1
    # Behind the same row the tops differ by the multiples of this, and each of them comes.
    step = gcd(least, n)
    total = 0
    for number, _ in takes:
        if (mate - total) // step > (plate - total) // step:
            return 1
        total = total + number
    return 0
