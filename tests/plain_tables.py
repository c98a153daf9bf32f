"""Tables of standings made and looked at through whole states of the pile, written without the program."""


def standing(state, plates):
    """The standing of sizes, of a plate, or of two, of a whole state."""
    row, pile, heaps = state
    wheres = []
    for plate in plates:
        if plate in pile:
            wheres.append(pile.index(plate))
        else:
            wheres += [(index, heap.index(plate)) for index, (_, heap) in enumerate(heaps) if plate in heap]
    return (row, tuple(len(heap) for _, heap in heaps), *wheres)


def gain_at_rest(plates):
    """One more for each day on which the plate is not used, none for a day on which it is."""
    return lambda used: None if plates[0] in used else 1


def gain_of_lead(plates):
    return lambda used: (plates[0] in used) - (plates[1] in used)


def heights(search, plates, starts, gain):
    """The greatest heights by standings, None if there are none."""
    best = search.longest(starts, gain)
    if best is None:
        return None
    found = {}
    for state, height in best.items():
        key = standing(state, plates)
        found[key] = max(height, found.get(key, height))
    return found


def table_of_sizes(search):
    return tuple((key, 0) for key in dict.fromkeys(standing(state, ()) for state in search.days))


def table_of_rests(search, plate):
    """None if the rests have no end."""
    found = heights(search, (plate,), list(search.days), gain_at_rest((plate,)))
    return None if found is None else tuple(found.items())


def table_of_leads(search, plate, mate):
    """None if the lead has no end."""
    found = heights(search, (plate, mate), [search.first], gain_of_lead((plate, mate)))
    return None if found is None else tuple(found.items())


class PlainTables:
    """Whether tables whose standings all come are right, each standing seen through a state that has it."""

    def __init__(self, search):
        self.search = search
        self.states = {1: {}, 2: {}}
        for state in search.days:
            for plate in range(search.plates):
                self.states[1][standing(state, (plate,))] = (state, (plate,))
                for mate in range(search.plates):
                    if mate != plate:
                        self.states[2][standing(state, (plate, mate))] = (state, (plate, mate))

    def is_right(self, table, plates, least, most, at_start, rise):
        """Rise tells the least height behind a day of the height ahead and the plates used, None for any height."""
        known = dict(table)
        if len(known) < len(table) or not all(least <= height <= most for height in known.values()):
            return False
        if known.get(standing(self.search.first, plates), at_start - 1) < at_start:
            return False
        for key, height in known.items():
            state, own = self.states[len(plates)][key]
            for used, behind in self.search.days[state]:
                needed = rise(height, [plate in used for plate in own])
                reached = known.get(standing(behind, own))
                if reached is None or needed is not None and reached < needed:
                    return False
        return True

    def accepts_rests(self, plate, most, table):
        return self.is_right(table, (plate,), 0, most, 0, lambda height, used: None if used[0] else height + 1)

    def accepts_lead(self, plate, mate, most, table):
        return self.is_right(table, (plate, mate), -10 ** 9, most, 0, lambda height, used: height + used[0] - used[1])
