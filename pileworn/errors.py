"""What can be wrong with what is passed, and what has no answer."""


class WrongValue(ValueError):
    """A value was passed that is not valid in its place."""


class InvalidText(WrongValue):
    """The value is not such a text."""

    def __init__(self, given):
        self.given = given


class InvalidNumber(WrongValue):
    """The value is not such an integer."""

    def __init__(self, given):
        self.given = given


class InvalidPlate(WrongValue):
    """The value is not such a plate."""

    def __init__(self, given):
        self.given = given


class InvalidName(WrongValue):
    """The value is no name."""

    def __init__(self, given):
        self.given = given


class InvalidWish(WrongValue):
    """The value is no wish."""

    def __init__(self, given):
        self.given = given


class NotARule(WrongValue):
    """The value is no rule."""

    def __init__(self, given):
        self.given = given


class InvalidRows(WrongValue):
    """The row with this index is none in its place."""

    def __init__(self, index):
        self.index = index


class InvalidChoices(WrongValue):
    """The choice with this index is not let, or is none."""

    def __init__(self, index):
        self.index = index


class InvalidTakes(WrongValue):
    """The pair with this index tells no numbers to take."""

    def __init__(self, index):
        self.index = index


class InvalidSeen(WrongValue):
    """The triple with this index tells nothing seen."""

    def __init__(self, index):
        self.index = index


class InvalidExchanges(WrongValue):
    """The pair with this index is no exchange."""

    def __init__(self, index):
        self.index = index


class InvalidWishes(WrongValue):
    """The element with this index is no wish."""

    def __init__(self, index):
        self.index = index


class WrongName(LookupError):
    """A name cannot be used in this way."""


class UnknownName(WrongName):
    """The value is no name that is known."""

    def __init__(self, given):
        self.given = given


class InUse(WrongName):
    """The wish with this index has the name."""

    def __init__(self, index):
        self.index = index


class NoAnswer(ArithmeticError):
    """What was asked for cannot be done or told."""


class NotLet(NoAnswer):
    """The number is not let on this day."""

    def __init__(self, given):
        self.given = given


class NotRound(NoAnswer):
    """The choices cannot be gone through in rounds."""

    def __init__(self, given):
        self.given = given


class RunsOut(NoAnswer):
    """The pile can run out, as the shown choices show."""

    def __init__(self, shown):
        self.shown = shown


class Broken(NoAnswer):
    """The wish with this index does not hold, as is shown."""

    def __init__(self, index, shown):
        self.index = index
        self.shown = shown


class NothingToUndo(NoAnswer):
    """Nothing is left that could be taken back."""
