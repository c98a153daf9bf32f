"""Two piles of as many plates that are led by the same choices."""

from pileworn.webs import choices_along


def numbers_of(ways):
    """The numbers that are let, of ways of a web."""
    return [number for number, behind, moves in ways]


def steps_of_both(one, other, standing):
    """The steps of a plate in both webs, in which the same numbers are let.

    Each is a triple of the standing behind, whether the plate is used in one of the webs alone, and the number.
    """
    here, there, slot, place = standing
    steps = []
    for way, also in zip(one.ways[here], other.ways[there]):
        number, behind, moves = way
        _, beyond, others = also
        steps.append(((behind, beyond, moves[slot], others[place]), (slot < number) != (place < number), number))
    return steps


def way_to_parting(one, other):
    """Shortest choices for both webs behind which they let other numbers, or with which at last other plates are used.

    None if there are none. Each plate is looked at by itself: unlike plates are used just if one is used here alone.
    """
    origins = {(0, 0, slot, slot): None for slot in range(one.slots)}
    front = list(origins)
    while front:
        # What is let is looked at first for all of them: it needs no day more.
        for here in front:
            if numbers_of(one.ways[here[0]]) != numbers_of(other.ways[here[1]]):
                return choices_along(origins, here)
        beyond = []
        for here in front:
            for behind, unlike, number in steps_of_both(one, other, here):
                if unlike:
                    return (*choices_along(origins, here), number)
                if behind not in origins:
                    origins[behind] = (here, number)
                    beyond.append(behind)
        front = beyond
    return None
