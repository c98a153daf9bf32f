"""Climbs: the greatest heights at which standings are reached, day by day."""


class Climb:
    """From the starts, at height 0, each step leads up by scale times its mark, and down by the toll."""

    def __init__(self, steps, starts, scale, toll):
        self.steps = steps
        self.scale = scale
        self.toll = toll
        self.heights = {start: 0 for start in starts}
        # For each standing the triple (standing ahead, mark, number) of the step by which it was reached highest.
        self.origins = {start: None for start in starts}
        # The standings, with their heights, that the last day reached higher than all days before.
        self.front = {start: 0 for start in starts}

    def go_on(self):
        """Goes on for a day from the front alone: what was reached as high before leads on to nothing new."""
        heights = self.heights
        origins = self.origins
        beyond = {}
        for here, height in self.front.items():
            for behind, mark, number in self.steps[here]:
                reached = height + self.scale * mark - self.toll
                known = heights.get(behind)
                if known is None or reached > known:
                    heights[behind] = reached
                    origins[behind] = (here, mark, number)
                    beyond[behind] = reached
        self.front = beyond


def days_to_height(climb, height):
    """The least number of days behind which a standing is reached at least so high, None if none ever is."""
    days = 0
    while climb.front:
        if max(climb.front.values()) >= height:
            return days
        climb.go_on()
        days = days + 1
    return None


def end_of_climb(climb):
    """Goes on until no standing is reached higher, and returns None; or a standing in a round that leads up."""
    work = 0
    while climb.front:
        climb.go_on()
        work = work + len(climb.front)
        # Looking for a round takes as long as going on from all standings, so it waits for as many.
        if work >= len(climb.heights):
            work = 0
            here = standing_in_round(climb.origins)
            if here is not None:
                return here
    return None


def standing_in_round(origins):
    """A standing to which its own origins lead back, None if there is none."""
    seen = {}
    for start in origins:
        here = start
        while here not in seen:
            seen[here] = start
            if origins[here] is None:
                break
            here = origins[here][0]
        else:
            if seen[here] == start:
                return here
    return None


def steps_of_round(origins, here):
    """The origins (standing ahead, mark, number) that lead from this standing round to itself, the last step first."""
    steps = [origins[here]]
    while steps[-1][0] != here:
        steps.append(origins[steps[-1][0]])
    return steps


def greatest_height(steps, starts, scale, toll):
    """The greatest height at which a standing is reached from the starts, None if there is no greatest."""
    climb = Climb(steps, starts, scale, toll)
    if end_of_climb(climb) is not None:
        return None
    return max(climb.heights.values())
