"""What is asked about a rule, told for all choices."""

from math import gcd

from pileworn.checks import check_mate, check_plate, check_rule, check_within
from pileworn.climbs import Climb, days_to_height, end_of_climb, greatest_height, steps_of_round
from pileworn.errors import RunsOut
from pileworn.pairs import way_to_parting
from pileworn.webs import choices_along, steps_from, steps_of_one, steps_of_two, web_of


def way_out(web):
    """Shortest choices behind which the pile has run out, None if it never runs out."""
    for here in range(len(web.standings)):
        if not web.ways[here]:
            return choices_along(web.origins, here)
    return None


def endless_web(rule):
    """The web of the rule; raises RunsOut if the pile can run out."""
    web = web_of(rule)
    shown = way_out(web)
    if shown is not None:
        raise RunsOut(shown)
    return web


def runs_out(rule):
    """Shortest choices behind which the pile has run out, None if it never runs out."""
    check_rule(rule)
    return way_out(web_of(rule))


def resting(steps):
    """Of these steps those by which the plate is not used."""
    return {here: [step for step in steps[here] if step[1] == 0] for here in steps}


def first_use(rule, plate):
    """The least number of days in which the plate is used for some choices, and that for all, None for what is not."""
    check_rule(rule)
    check_plate(rule, plate)
    starts = [(0, plate)]
    steps = steps_from(endless_web(rule), starts, steps_of_one)
    soonest = days_to_height(Climb(steps, starts, 1, 0), 1)
    unused = greatest_height(resting(steps), starts, 0, -1)
    return (soonest, None if unused is None else unused + 1)


def longest_rest(rule, plate):
    """The greatest number of days for which the plate rests in some choices, None if there is no greatest."""
    check_rule(rule)
    check_plate(rule, plate)
    steps = steps_from(endless_web(rule), [(0, plate)], steps_of_one)
    return greatest_height(resting(steps), list(steps), 0, -1)


def lead(rule, plate, mate):
    """The greatest lead of the plate over its mate behind any choices, None if there is no greatest."""
    check_rule(rule)
    check_plate(rule, plate)
    check_mate(rule, plate, mate)
    starts = [(0, plate, mate)]
    steps = steps_from(endless_web(rule), starts, steps_of_two)
    return greatest_height(steps, starts, 1, 0)


def worn(rule):
    """The greatest lead of any plate over any other one, None if there is no greatest."""
    check_rule(rule)
    plates = range(rule.plates)
    starts = [(0, plate, mate) for plate in plates for mate in plates if mate != plate]
    steps = steps_from(endless_web(rule), starts, steps_of_two)
    return greatest_height(steps, starts, 1, 0)


def soonest_lead(rule, plate, mate, by):
    """The least number of days behind which the lead is at least so much for some choices, None if it never is."""
    check_rule(rule)
    check_plate(rule, plate)
    check_mate(rule, plate, mate)
    check_within(by, 1, 9)
    starts = [(0, plate, mate)]
    steps = steps_from(endless_web(rule), starts, steps_of_two)
    return days_to_height(Climb(steps, starts, 1, 0), by)


def extreme_share(steps, share, sign):
    """The greatest share that rounds have if the sign is 1, the least one if it is -1, from this share on."""
    while True:
        climb = Climb(steps, list(steps), sign * share[1], sign * share[0])
        here = end_of_climb(climb)
        if here is None:
            return share
        # This round leads up, so its share is beyond the one so far.
        marks = [mark for ahead, mark, number in steps_of_round(climb.origins, here)]
        common = gcd(sum(marks), len(marks))
        share = (sum(marks) // common, len(marks) // common)


def shares(rule, plate):
    """The least and the greatest share of the plate that rounds of standings have that come behind choices."""
    check_rule(rule)
    check_plate(rule, plate)
    steps = steps_from(endless_web(rule), [(0, plate)], steps_of_one)
    return (extreme_share(steps, (1, 1), -1), extreme_share(steps, (0, 1), 1))


def places_in(web, plate):
    """The ascending list of the places that the plate has in the pile behind some choices."""
    found = set()
    for here, slot in steps_from(web, [(0, plate)], steps_of_one):
        if slot < web.slots - sum(web.standings[here][1]):
            found.add(slot)
    return sorted(found)


def places(rule, plate):
    """The ascending places that the plate has in the pile behind some choices."""
    check_rule(rule)
    check_plate(rule, plate)
    return tuple(places_in(endless_web(rule), plate))


def tops(rule):
    """The ascending plates that lie on top of the pile behind some choices."""
    check_rule(rule)
    web = endless_web(rule)
    return tuple([plate for plate in range(rule.plates) if 0 in places_in(web, plate)])


def how_many(rule, days):
    """The number of tuples of choices for so many days."""
    check_rule(rule)
    check_within(days, 0, 400)
    web = web_of(rule)
    counts = [1] * len(web.standings)
    # Behind each run of the loop they are the numbers of choices for one day more from each standing on.
    for _ in range(days):
        counts = [sum([counts[behind] for number, behind, moves in ways]) for ways in web.ways]
    return counts[0]


def parting(one, other):
    """Shortest choices by which the rules part, None if there are none, "plates" if they have not as many plates."""
    check_rule(one)
    check_rule(other)
    if one.plates != other.plates:
        return "plates"
    return way_to_parting(web_of(one), web_of(other))
