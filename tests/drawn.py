"""Small rules that are drawn by lot, the same ones in each run."""

import random

from pileworn.rules import Rule
from tests import plain
from tests.cases import NEVER, OUT, SWAP, UNDER, WHEEL

MOST_STATES = 160


def some_row(chooser, plates):
    """The row of a day that does something with so few plates."""
    kind = chooser.randrange(12)
    if kind == 0:
        return "rest"
    if kind == 1:
        return "turn"
    if kind == 2:
        return f"cut {chooser.randint(1, plates)}"
    least = chooser.choice((0, 0, 0, 1, 1, 1, 1, 2, 3))
    most = chooser.choice((least, least, least + 1, least + 1, least + 2, 6))
    where = chooser.choice(("top", "bottom", "bottom", "under 1", "under 1", "under 2", f"under {plates}"))
    return f"take {least} to {min(most, 6)} back {where} {chooser.choice(('kept', 'turned'))}"


def some_rule(chooser):
    plates = chooser.choice((2, 3, 3, 4, 4))
    rows = [some_row(chooser, plates) for _ in range(chooser.randint(1, 4))]
    return Rule(f"plates {plates} away {chooser.randint(0, 2)}", *rows)


def some_searches(many):
    """So many small rules that have not too many states, with their searches."""
    chooser = random.Random(20261119)
    found = [(rule, plain.Search(rule)) for rule in (WHEEL, SWAP, NEVER, OUT, UNDER.with_row(0, "plates 4 away 1"))]
    while len(found) < many:
        rule = some_rule(chooser)
        try:
            found.append((rule, plain.Search(rule, MOST_STATES)))
        except OverflowError:
            continue
    return found
