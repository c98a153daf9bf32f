"""Rules: rows of words that tell how a pile of plates is led."""

from pileworn.errors import InvalidNumber, InvalidRows, InvalidText
from pileworn.kinds import integer_within
from pileworn.limits import MOST_AWAY, MOST_DAYS, MOST_PLATES, MOST_TAKEN, MOST_UNDER


def read_number(word, least, most):
    """The integer from least to most that is written as this word, None if there is none."""
    for number in range(least, most + 1):
        # Comparing with the written number keeps signs, needless zeros and foreign digits out.
        if word == str(number):
            return number
    return None


def read_first(row):
    """The pair (plates, away) that the first row of a rule tells, None if it is no such row."""
    if not isinstance(row, str):
        return None
    words = row.split(" ")
    if len(words) != 4 or words[0] != "plates" or words[2] != "away":
        return None
    plates = read_number(words[1], 2, MOST_PLATES)
    away = read_number(words[3], 0, MOST_AWAY)
    if plates is None or away is None:
        return None
    return (plates, away)


def is_where(words):
    """Whether the words tell where a heap comes back."""
    if len(words) == 2:
        return words[0] == "under" and read_number(words[1], 1, MOST_UNDER) is not None
    return words == ["top"] or words == ["bottom"]


def is_take(words):
    """Whether the words are those of the row of a day that takes."""
    if len(words) < 7 or words[0] != "take" or words[2] != "to" or words[4] != "back":
        return False
    least = read_number(words[1], 0, MOST_TAKEN)
    if least is None or read_number(words[3], least, MOST_TAKEN) is None:
        return False
    return is_where(words[5:-1]) and words[-1] in ("kept", "turned")


def is_day(row):
    """Whether the value is the row of a day."""
    if not isinstance(row, str):
        return False
    words = row.split(" ")
    if len(words) == 1:
        return row in ("turn", "rest")
    if len(words) == 2:
        return words[0] == "cut" and read_number(words[1], 1, MOST_UNDER) is not None
    return is_take(words)


class Rule:
    """A rule: its first row tells the plates, each other one is the row of a day."""

    def __init__(self, *rows):
        if not 2 <= len(rows) <= 1 + MOST_DAYS:
            raise InvalidRows(None)
        first = read_first(rows[0])
        if first is None:
            raise InvalidRows(0)
        for index in range(1, len(rows)):
            if not is_day(rows[index]):
                raise InvalidRows(index)
        self._rows = rows
        self._days = rows[1:]
        self._plates, self._away = first

    @classmethod
    def read(cls, text):
        """The rule whose rows are the lines of this text."""
        if not isinstance(text, str):
            raise InvalidText(text)
        # Not splitlines: it would let a newline at the end pass.
        rows = text.split("\n")
        try:
            return cls(*rows)
        except InvalidRows:
            raise InvalidText(text) from None

    @property
    def rows(self):
        """The tuple of the rows, the first one included."""
        return self._rows

    @property
    def text(self):
        """The rows as the lines of a text, without a newline at its end."""
        return "\n".join(self._rows)

    @property
    def plates(self):
        """The number of plates."""
        return self._plates

    @property
    def away(self):
        """The number of days for which a heap is away."""
        return self._away

    def with_row(self, index, row):
        """The rule with this row in the place of the one with this index."""
        if not integer_within(index, 0, len(self._rows) - 1):
            raise InvalidNumber(index)
        rows = list(self._rows)
        rows[index] = row
        return Rule(*rows)

    def __len__(self):
        return len(self._days)

    def __eq__(self, other):
        return isinstance(other, Rule) and self._rows == other._rows

    def __str__(self):
        return "\n".join(self._rows)

    def __repr__(self):
        return f"Rule of {len(self._days)} days"
