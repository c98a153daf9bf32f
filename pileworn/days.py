"""The rows of days: what they tell, and how a day goes by."""

from pileworn.limits import MOST_PLATES, MOST_TAKEN, MOST_UNDER
from pileworn.words import read_number


class Day:
    """What the row of a day tells."""

    def __init__(self, word, least, most, depth, turned):
        self.word = word
        self.least = least
        self.most = most
        # As many plates lie above a heap that comes back, or are put under the others by a cut.
        self.depth = depth
        self.turned = turned


def read_day(row):
    """The day that is told by this row, None if it is no row of a day."""
    if not isinstance(row, str):
        return None
    if row in ("turn", "rest"):
        return Day(row, 0, 0, 0, False)
    words = row.split(" ")
    if words[0] == "cut":
        return read_cut(words)
    return read_take(words)


def read_cut(words):
    """The day on which the pile is cut as the words tell, None if they tell none."""
    if len(words) != 2:
        return None
    depth = read_number(words[1], 1, MOST_UNDER)
    if depth is None:
        return None
    return Day("cut", 0, 0, depth, False)


def read_take(words):
    """The day on which plates are taken as the words tell, None if they tell none."""
    if len(words) < 7 or words[0] != "take" or words[2] != "to" or words[4] != "back":
        return None
    least = read_number(words[1], 0, MOST_TAKEN)
    if least is None:
        return None
    most = read_number(words[3], least, MOST_TAKEN)
    depth = read_depth(words[5:-1])
    if most is None or depth is None or words[-1] not in ("kept", "turned"):
        return None
    return Day("take", least, most, depth, words[-1] == "turned")


def read_depth(words):
    """How many plates at most lie above a heap that comes back as the words tell, None if they tell nothing."""
    if words == ["top"]:
        return 0
    if words == ["bottom"]:
        return MOST_PLATES
    if len(words) == 2 and words[0] == "under":
        return read_number(words[1], 1, MOST_UNDER)
    return None


def numbers_let(day, lying):
    """The pair of the least and the greatest number that is let if so many plates lie there, None if none is."""
    if lying < day.least:
        return None
    return (day.least, min(day.most, lying))


def rearranged(day, pile):
    """The pile behind what the row does with the plates that are not taken."""
    if day.word == "turn":
        return pile[::-1]
    if day.word == "cut":
        # With at most so many plates there is nothing behind the cut, and all stays as it is.
        return pile[day.depth:] + pile[:day.depth]
    return pile


def laid_back(day, pile, heap):
    """The pile behind the coming back of a heap that was taken on this day."""
    if day.turned:
        heap = heap[::-1]
    return pile[:day.depth] + heap + pile[day.depth:]


def behind_day(days, row, pile, heaps, number):
    """The pair (pile, heaps) behind the day with this index of a row and this choice."""
    heaps = (*heaps, pile[:number])
    pile = rearranged(days[row], pile[number:])
    # Before there are so many days, the heap is one of no plates, and any day lays it back.
    taken = days[(row + 1 - len(heaps)) % len(days)]
    return (laid_back(taken, pile, heaps[0]), heaps[1:])
