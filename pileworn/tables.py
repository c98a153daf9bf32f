"""Standings as they are told in tables, beside the slots at which the webs have the plates."""

from pileworn.kinds import integer_within, is_integer


def where_of(sizes, lying, slot):
    """The place in the pile of the plate at this slot, or the pair of the index of its heap and its place there."""
    if slot < lying:
        return slot
    above = slot - lying
    index = 0
    while above >= sizes[index]:
        above = above - sizes[index]
        index = index + 1
    return (index, above)


def slot_of(sizes, lying, where):
    """The slot of a plate that is there, None if no plate can be."""
    if is_integer(where):
        return where if 0 <= where < lying else None
    if not isinstance(where, tuple) or len(where) != 2:
        return None
    index, above = where
    if not integer_within(index, 0, len(sizes) - 1) or not integer_within(above, 0, sizes[index] - 1):
        return None
    return lying + sum(sizes[:index]) + above


def told_standing(web, standing):
    """The standing as it is told, of one of a web: the number of the standing of sizes, and the slots of the plates."""
    number, *slots = standing
    row, sizes = web.standings[number]
    wheres = [where_of(sizes, web.slots - sum(sizes), slot) for slot in slots]
    return (row, sizes, *wheres)


def told_table(web, heights):
    """The table of these heights of standings of the web."""
    return tuple([(told_standing(web, standing), height) for standing, height in heights.items()])


def are_sizes(rule, sizes):
    """Whether these can be the numbers of plates in the heaps that are away."""
    if not isinstance(sizes, tuple) or len(sizes) != rule.away:
        return False
    if [size for size in sizes if not is_integer(size) or size < 0]:
        return False
    return sum(sizes) <= rule.plates


def read_standing(rule, standing, many):
    """The pair of the standing of sizes and the slots of so many plates that is told, None if it is none."""
    if not isinstance(standing, tuple) or len(standing) != 2 + many:
        return None
    row, sizes, *wheres = standing
    if not integer_within(row, 0, len(rule.days) - 1) or not are_sizes(rule, sizes):
        return None
    slots = [slot_of(sizes, rule.plates - sum(sizes), where) for where in wheres]
    if None in slots:
        return None
    return ((row, sizes), tuple(slots))


def read_table(rule, told, many):
    """The heights by the standings of so many plates, as read_standing gives them, None if this is no table."""
    if not isinstance(told, tuple):
        return None
    table = {}
    for pair in told:
        if not isinstance(pair, tuple) or len(pair) != 2 or not is_integer(pair[1]):
            return None
        standing = read_standing(rule, pair[0], many)
        if standing is None or standing in table:
            return None
        table[standing] = pair[1]
    return table
