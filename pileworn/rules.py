"""Rules: rows of words that tell how a pile of plates is led."""

from pileworn.days import read_day
from pileworn.errors import InvalidNumber, InvalidRows, InvalidText
from pileworn.kinds import integer_within
from pileworn.limits import MOST_AWAY, MOST_DAYS, MOST_PLATES
from pileworn.words import read_number


def read_first(row):
    """The pair (plates, away) that the first row of a rule tells, None if it is no such row."""
    if not isinstance(row, str):
        return None
    words = row.split(" ")
    if len(words) != 4 or words[0] != "plates" or words[2] != "away":
        return None
    plates = read_number(words[1], 2, MOST_PLATES)
    away = read_number(words[3], 0, MOST_AWAY)
    if plates is None or away is None:
        return None
    return (plates, away)


class Rule:
    """A rule: its first row tells the plates, each other one is the row of a day."""

    def __init__(self, *rows):
        if not 2 <= len(rows) <= 1 + MOST_DAYS:
            raise InvalidRows(None)
        first = read_first(rows[0])
        if first is None:
            raise InvalidRows(0)
        days = [read_day(row) for row in rows[1:]]
        if None in days:
            raise InvalidRows(days.index(None) + 1)
        self._rows = rows
        self._plates, self._away = first
        # What the rows of days tell, for the modules that go through them.
        self.days = tuple(days)

    @classmethod
    def read(cls, text):
        """The rule whose rows are the lines of this text."""
        if not isinstance(text, str):
            raise InvalidText(text)
        # Not splitlines: it would let a newline at the end pass.
        rows = text.split("\n")
        try:
            return cls(*rows)
        except InvalidRows:
            raise InvalidText(text) from None

    @property
    def rows(self):
        """The tuple of the rows, the first one included."""
        return self._rows

    @property
    def text(self):
        """The rows as the lines of a text, without a newline at its end."""
        return "\n".join(self._rows)

    @property
    def plates(self):
        """The number of plates."""
        return self._plates

    @property
    def away(self):
        """The number of days for which a heap is away."""
        return self._away

    def with_row(self, index, row):
        """The rule with this row in the place of the one with this index."""
        if not integer_within(index, 0, len(self._rows) - 1):
            raise InvalidNumber(index)
        rows = list(self._rows)
        rows[index] = row
        return Rule(*rows)

    def __len__(self):
        return len(self.days)

    def __eq__(self, other):
        return isinstance(other, Rule) and self._rows == other._rows

    def __str__(self):
        return "\n".join(self._rows)

    def __repr__(self):
        return f"Rule of {len(self.days)} days"
