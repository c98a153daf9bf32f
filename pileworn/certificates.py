"""Claims for the checker, with their certificates."""

from pileworn.asking import endless_web, resting, way_out
from pileworn.checks import check_mate, check_plate, check_rule, check_within
from pileworn.climbs import Climb, end_of_climb, steps_of_round
from pileworn.tables import told_table
from pileworn.webs import choices_along, steps_from, steps_of_one, steps_of_two, way_to, web_of


def highest(heights):
    """A standing with the greatest one of these heights."""
    return max(heights, key=lambda standing: heights[standing])


def certify_runs(rule):
    """The claim that the pile never runs out, or that it has behind some choices, with its certificate."""
    check_rule(rule)
    web = web_of(rule)
    shown = way_out(web)
    if shown is not None:
        return (("out", rule.text, shown), ())
    return (("runs", rule.text), tuple([(standing, 0) for standing in web.standings]))


def days_up_to(origins, here, days):
    """The standing from which the origins lead to this one in so many days, and the list of the numbers chosen."""
    numbers = []
    while len(numbers) < days:
        here, _, number = origins[here]
        numbers.append(number)
    return (here, numbers[::-1])


def certify_rest(rule, plate, most):
    """The claim that the plate never rests for more days, or that it does in some choices, with its certificate."""
    check_rule(rule)
    check_plate(rule, plate)
    check_within(most, 0, 99)
    web = endless_web(rule)
    steps = steps_from(web, [(0, plate)], steps_of_one)
    climb = Climb(resting(steps), list(steps), 0, -1)
    here = end_of_climb(climb)
    if here is None:
        here = highest(climb.heights)
        if climb.heights[here] <= most:
            return (("rests", rule.text, plate, most), told_table(web, climb.heights))
    # In a round the origins lead back without end, otherwise for as many days as the height tells.
    first, numbers = days_up_to(climb.origins, here, most + 1)
    choices = (*way_to(steps, (0, plate), first), *numbers)
    return (("rested", rule.text, plate, choices, most + 1), ())


def climb_of_lead(rule, plate, mate):
    """The web, the climb of the lead, and a standing in a round by which the lead has no end, None if it has one."""
    check_rule(rule)
    check_plate(rule, plate)
    check_mate(rule, plate, mate)
    web = endless_web(rule)
    start = (0, plate, mate)
    climb = Climb(steps_from(web, [start], steps_of_two), [start], 1, 0)
    return (web, climb, end_of_climb(climb))


def certify_lead(rule, plate, mate):
    """The claim of the greatest lead, or of a round by which there is none, with its certificate."""
    web, climb, here = climb_of_lead(rule, plate, mate)
    if here is None:
        most = max(climb.heights.values())
        return (("lead", rule.text, plate, mate, most), told_table(web, climb.heights))
    choices = way_to(climb.steps, (0, plate, mate), here)
    numbers = [number for ahead, mark, number in steps_of_round(climb.origins, here)]
    return (("endless", rule.text, plate, mate, choices, tuple(numbers[::-1])), ())


def certify_reached(rule, plate, mate):
    """The claim that choices reach the greatest lead, with its certificate, None if there is no greatest lead."""
    _, climb, round_on = climb_of_lead(rule, plate, mate)
    if round_on is not None:
        return None
    here = highest(climb.heights)
    return (("ahead", rule.text, plate, mate, choices_along(climb.origins, here), climb.heights[here]), ())
