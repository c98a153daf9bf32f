"""Piles behind great numbers of rounds of choices."""

from pileworn.checks import check_at_least, check_choices, check_rule
from pileworn.errors import NotRound
from pileworn.piles import led, uses


def check_rounds(rule, choices, rounds):
    """Raises what is wrong with these choices, or with so many rounds of them."""
    check_rule(rule)
    check_choices(rule, choices)
    check_at_least(rounds, 0)
    if rule.away != 0 or len(choices) % len(rule) != 0:
        raise NotRound(choices)


def ring_from(moves, first):
    """The first number and those to which the moves lead on from it, until it comes again."""
    ring = [first]
    while moves[ring[-1]] != first:
        ring.append(moves[ring[-1]])
    return ring


def led_rounds(rule, choices, rounds):
    """The pile's standing behind these choices so many times."""
    check_rounds(rule, choices, rounds)
    # Behind a round there lies at each place what lay at the place told here when it began.
    sources = led(rule, choices)
    standing = []
    for place in range(rule.plates):
        ring = ring_from(sources, place)
        standing.append(ring[rounds % len(ring)])
    return tuple(standing)


def uses_rounds(rule, choices, rounds):
    """The numbers of days on which the plates are used in these choices so many times."""
    check_rounds(rule, choices, rounds)
    sources = led(rule, choices)
    places = [sources.index(place) for place in range(rule.plates)]
    # In each round a plate is used as often as the plate that lay at its place at the beginning.
    counts = uses(rule, choices)
    found = []
    for plate in range(rule.plates):
        gained = [counts[place] for place in ring_from(places, plate)]
        times, left = divmod(rounds, len(gained))
        found.append(times * sum(gained) + sum(gained[:left]))
    return tuple(found)
