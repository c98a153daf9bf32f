"""Standings: all that come behind choices, and the days that lead on from one to another.

All plates have one standing of sizes in common. In it the plates lie at slots: the places in the pile from the top,
then those in the heaps that are away. A day moves the plates from slot to slot, whichever plates they are.
"""

from pileworn.days import behind_day, numbers_let


class Web:
    """The standings of sizes that come behind choices, by number, the one at the beginning first."""

    def __init__(self, rule):
        self.slots = rule.plates
        self.standings = [(0, (0,) * rule.away)]
        # For each standing the pair of the one ahead of it on a shortest way to it, and the number chosen there.
        self.origins = [None]
        # For each standing the days that are let, ascending: triples of the number, the standing behind, the moves.
        self.ways = []


def web_of(rule):
    """The web of the standings of sizes of this rule, nearer ones ahead of farther ones."""
    web = Web(rule)
    numbers = {web.standings[0]: 0}
    while len(web.ways) < len(web.standings):
        here = len(web.ways)
        days = ways_from(rule, web.standings[here])
        web.ways.append([])
        for number, behind, moves in days:
            if behind not in numbers:
                numbers[behind] = len(web.standings)
                web.standings.append(behind)
                web.origins.append((here, number))
            web.ways[here].append((number, numbers[behind], moves))
    return web


def ways_from(rule, standing):
    """The triples (number, standing behind, moves) for the numbers that are let in this standing of sizes."""
    row, sizes = standing
    lying = rule.plates - sum(sizes)
    lets = numbers_let(rule.days[row], lying)
    if lets is None:
        return []
    found = []
    for number in range(lets[0], lets[1] + 1):
        behind = ((row + 1) % len(rule.days), (*sizes, number)[1:])
        found.append((number, behind, moves_of_day(rule, row, sizes, number)))
    return found


def moves_of_day(rule, row, sizes, number):
    """For each slot the slot in which the plate that lies there lies behind this day."""
    first = rule.plates - sum(sizes)
    pile = tuple(range(first))
    heaps = []
    for size in sizes:
        heaps.append(tuple(range(first, first + size)))
        first = first + size
    pile, heaps = behind_day(rule.days, row, pile, tuple(heaps), number)
    order = list(pile)
    for heap in heaps:
        order.extend(heap)
    return [order.index(slot) for slot in range(rule.plates)]


def choices_along(origins, here):
    """The numbers chosen on the way to this standing; an origin is the standing ahead first, the number last."""
    choices = []
    while origins[here] is not None:
        choices.append(origins[here][-1])
        here = origins[here][0]
    return tuple(choices[::-1])


def steps_of_one(web, standing):
    """The steps that lead on from this standing of a plate, a pair (number of the standing of sizes, slot).

    A step is a triple of the standing behind, the mark 1 if the plate is used and 0 if not, and the number chosen.
    """
    here, slot = standing
    return [((behind, moves[slot]), int(slot < number), number) for number, behind, moves in web.ways[here]]


def steps_of_two(web, standing):
    """The steps that lead on from this standing of two plates: those of one, with the change of the lead as mark."""
    here, slot, other = standing
    steps = []
    for number, behind, moves in web.ways[here]:
        steps.append(((behind, moves[slot], moves[other]), int(slot < number) - int(other < number), number))
    return steps


def steps_from(web, starts, steps_of):
    """For each standing that comes from one of the starts the steps that lead on from it."""
    found = {}
    waiting = list(starts)
    while waiting:
        here = waiting.pop()
        if here not in found:
            found[here] = steps_of(web, here)
            waiting.extend([step[0] for step in found[here]])
    return found


def way_to(steps, start, goal):
    """The numbers chosen on a shortest way from the start to a standing that comes from it, by these steps."""
    origins = {start: None}
    front = [start]
    while goal not in origins:
        beyond = []
        for here in front:
            for behind, _, number in steps[here]:
                if behind not in origins:
                    origins[behind] = (here, number)
                    beyond.append(behind)
        front = beyond
    return choices_along(origins, goal)
