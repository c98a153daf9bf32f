"""The checker of claims: small, and without any search, as it goes through what it is given alone.

Each word of a claim has a function that is passed the rule, the tuple of what stands behind it in the claim, and the
certificate, which both may be anything.
"""

from pileworn.errors import InvalidChoices, InvalidText
from pileworn.kinds import integer_within, is_integer
from pileworn.piles import course, led_pile
from pileworn.rules import Rule
from pileworn.tables import read_table
from pileworn.webs import ways_from


def is_empty(certificate):
    """Whether this is the certificate of a claim that tells choices."""
    return isinstance(certificate, tuple) and len(certificate) == 0


def are_two_plates(rule, plate, mate):
    """Whether these are two different plates of the rule."""
    most = rule.plates - 1
    return integer_within(plate, 0, most) and integer_within(mate, 0, most) and plate != mate


def pile_behind(rule, choices):
    """The pile behind these choices, None if they are none."""
    try:
        return led_pile(rule, choices)
    except InvalidChoices:
        return None


def first_standing(rule, plates):
    """The standing of these plates behind no choices, as read_table has it."""
    return ((0, (0,) * rule.away), plates)


def is_closed(rule, table, plates, rises):
    """Whether the table of these plates is closed, and the function tells each step in it to rise as it has to.

    The function is passed the height ahead of the day, that behind it, and for each plate whether it is used.
    """
    if first_standing(rule, plates) not in table:
        return False
    known = {}
    for standing, height in table.items():
        sizes, slots = standing
        if sizes not in known:
            known[sizes] = ways_from(rule, sizes)
        for number, behind, moves in known[sizes]:
            reached = table.get((behind, tuple([moves[slot] for slot in slots])))
            if reached is None or not rises(height, reached, [slot < number for slot in slots]):
                return False
    return True


def stays_level(height, reached, used):
    """Whether the height is the same behind the day."""
    return height == reached


def rises_at_rest(height, reached, used):
    """Whether the height is greater behind the day if the plate is not used."""
    return used[0] or reached > height


def rises_with_lead(height, reached, used):
    """Whether the height rises by as much as the lead of the first plate over the second one."""
    return reached >= height + int(used[0]) - int(used[1])


def accepts_runs(rule, told, certificate):
    """Whether the certificate shows that the pile never runs out."""
    table = read_table(rule, certificate, 0)
    if len(told) != 0 or table is None:
        return False
    if [standing for standing in table if table[standing] != 0 or not ways_from(rule, standing[0])]:
        return False
    return is_closed(rule, table, (), stays_level)


def accepts_out(rule, told, certificate):
    """Whether the pile has run out behind the choices."""
    if len(told) != 1 or not is_empty(certificate):
        return False
    pile = pile_behind(rule, told[0])
    return pile is not None and pile.lets is None


def accepts_rests(rule, told, certificate):
    """Whether the certificate shows that the plate never rests for more days."""
    if len(told) != 2 or not integer_within(told[0], 0, rule.plates - 1) or not is_integer(told[1]):
        return False
    plate, most = told
    table = read_table(rule, certificate, 1)
    if table is None or [height for height in table.values() if not 0 <= height <= most]:
        return False
    return is_closed(rule, table, (plate,), rises_at_rest)


def accepts_rested(rule, told, certificate):
    """Whether the plate is used on none of the last days of the choices."""
    if len(told) != 3 or not integer_within(told[0], 0, rule.plates - 1) or not is_empty(certificate):
        return False
    plate, choices, days = told
    if pile_behind(rule, choices) is None or not integer_within(days, 1, len(choices)):
        return False
    return not [used for used in course(rule, choices)[-days:] if plate in used]


def accepts_lead(rule, told, certificate):
    """Whether the certificate shows that the lead is never greater."""
    if len(told) != 3 or not are_two_plates(rule, told[0], told[1]) or not is_integer(told[2]):
        return False
    plate, mate, most = told
    table = read_table(rule, certificate, 2)
    if table is None or [height for height in table.values() if height > most]:
        return False
    if table.get(first_standing(rule, (plate, mate)), 0) < 0:
        return False
    return is_closed(rule, table, (plate, mate), rises_with_lead)


def lead_at(pile, plate, mate):
    """The lead of the plate over its mate in the course of the pile."""
    return pile.uses[plate] - pile.uses[mate]


def accepts_ahead(rule, told, certificate):
    """Whether the lead behind the choices is the number that is told."""
    if len(told) != 4 or not are_two_plates(rule, told[0], told[1]) or not is_empty(certificate):
        return False
    plate, mate, choices, number = told
    pile = pile_behind(rule, choices)
    return pile is not None and is_integer(number) and lead_at(pile, plate, mate) == number


def where_in(pile, plate):
    """The plate's place if it is in the pile, otherwise the pair of the index of its heap and its place there."""
    if plate in pile.standing:
        return pile.standing.index(plate)
    for index in range(len(pile.heaps)):
        if plate in pile.heaps[index]:
            return (index, pile.heaps[index].index(plate))
    return None


def standing_of(pile, plate, mate):
    """The standing of the two plates behind the course of the pile."""
    sizes = tuple([len(heap) for heap in pile.heaps])
    return (pile.changes % len(pile.rule), sizes, where_in(pile, plate), where_in(pile, mate))


def accepts_endless(rule, told, certificate):
    """Whether the round leads from the standing behind the choices to the same one, with a greater lead."""
    if len(told) != 4 or not are_two_plates(rule, told[0], told[1]) or not is_empty(certificate):
        return False
    plate, mate, choices, round_on = told
    if not isinstance(choices, tuple) or not isinstance(round_on, tuple):
        return False
    ahead = pile_behind(rule, choices)
    behind = pile_behind(rule, choices + round_on)
    if ahead is None or behind is None or standing_of(ahead, plate, mate) != standing_of(behind, plate, mate):
        return False
    return lead_at(behind, plate, mate) > lead_at(ahead, plate, mate)


CLAIMS = {
    "runs": accepts_runs, "out": accepts_out, "rests": accepts_rests, "rested": accepts_rested, "lead": accepts_lead,
    "ahead": accepts_ahead, "endless": accepts_endless,
}


def accepts(claim, certificate):
    """Whether this is a claim, and the certificate one for it, whatever both are."""
    if not isinstance(claim, tuple) or len(claim) < 2 or not isinstance(claim[0], str) or claim[0] not in CLAIMS:
        return False
    try:
        rule = Rule.read(claim[1])
    except InvalidText:
        return False
    check = CLAIMS[claim[0]]
    return check(rule, claim[2:], certificate)
