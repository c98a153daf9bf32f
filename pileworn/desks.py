"""Desks: rules under names, and wishes that hold for them after each change."""

from pileworn.checks import check_rule, check_within
from pileworn.errors import Broken, InUse, InvalidName, InvalidWish, NothingToUndo, UnknownName
from pileworn.mends import is_wish, shown_of
from pileworn.trials import Trial

LETTERS = "abcdefghijklmnopqrstuvwxyz"
LONGEST_NAME = 8


def is_name(value):
    """Whether this is a name."""
    if not isinstance(value, str) or not 1 <= len(value) <= LONGEST_NAME:
        return False
    return not [sign for sign in value if sign not in LETTERS]


def is_wish_of_desk(value):
    """Whether this has the form of a wish of a desk, whatever stands in the places of the names."""
    if not isinstance(value, tuple):
        return False
    if len(value) == 2:
        return is_wish(value[1])
    return len(value) == 3 and isinstance(value[0], str) and value[0] == "alike"


def names_in(wish):
    """The tuple of what stands in the places of the names in a wish of a desk."""
    return wish[:1] if len(wish) == 2 else wish[1:]


def shown_at(rules, wish):
    """None if this wish of a desk holds with these rules by name, otherwise what shows that it does not."""
    if len(wish) == 2:
        return shown_of(rules[wish[0]], wish[1])
    return shown_of(rules[wish[1]], ("alike", rules[wish[2]]))


def check_known(rules, name):
    """Raises UnknownName if this is the name of none of these rules."""
    if not isinstance(name, str) or name not in rules:
        raise UnknownName(name)


class State:
    """The rules by name and the wishes of a desk, and the state that the last change led on from."""

    def __init__(self, rules, wished, ahead):
        # None of them changes any more: going back to a state, by undo or by a trial, is but taking it again.
        self.rules = rules
        self.wished = wished
        self.ahead = ahead
        self.many = 0 if ahead is None else ahead.many + 1


class Desk:
    """Rules under names, and wishes, at first none."""

    def __init__(self):
        self._become(State({}, (), None))

    def _become(self, state):
        # The state of now is one of these, at this place: a trial that goes back to one tells all that it holds.
        self.states = (state,)
        self.place = 0

    @property
    def state(self):
        """What the desk is now."""
        return self.states[self.place]

    def put(self, name, rule):
        """Puts a rule under a name, also in the place of another one."""
        if not is_name(name):
            raise InvalidName(name)
        check_rule(rule)
        wished = self.state.wished
        rules = dict(self.state.rules)
        rules[name] = rule
        for index in range(len(wished)):
            # The wishes that have other names alone hold as before.
            if name in names_in(wished[index]):
                shown = shown_at(rules, wished[index])
                if shown is not None:
                    raise Broken(index, shown)
        self._become(State(rules, wished, self.state))

    def named(self, name):
        """The rule with this name."""
        check_known(self.state.rules, name)
        return self.state.rules[name]

    def drop(self, name):
        """Takes a name away."""
        check_known(self.state.rules, name)
        wished = self.state.wished
        for index in range(len(wished)):
            if name in names_in(wished[index]):
                raise InUse(index)
        rules = dict(self.state.rules)
        del rules[name]
        self._become(State(rules, wished, self.state))

    def wish(self, wish):
        """A wish more, behind the others."""
        if not is_wish_of_desk(wish):
            raise InvalidWish(wish)
        rules = self.state.rules
        for name in names_in(wish):
            check_known(rules, name)
        wished = self.state.wished
        shown = shown_at(rules, wish)
        if shown is not None:
            raise Broken(len(wished), shown)
        self._become(State(rules, (*wished, wish), self.state))

    def lift(self, index):
        """Takes the wish with this index away."""
        wished = self.state.wished
        check_within(index, 0, len(wished) - 1)
        self._become(State(self.state.rules, wished[:index] + wished[index + 1:], self.state))

    def undo(self):
        """Takes back the last change that has not been taken back."""
        if self.state.ahead is None:
            raise NothingToUndo()
        self._become(self.state.ahead)

    def trial(self):
        """For a with statement: if its rows end with an exception, the desk is then as it was when they began."""
        return Trial(self)

    def tried(self, action):
        """What the function returns for the desk, called in a trial."""
        with self.trial() as desk:
            return action(desk)

    @property
    def names(self):
        """The ascending tuple of the names."""
        return tuple(sorted(list(self.state.rules)))

    @property
    def wishes(self):
        """The tuple of the wishes."""
        return self.state.wished

    @property
    def changes(self):
        """The number of changes that can be taken back."""
        return self.state.many

    def __len__(self):
        return len(self.state.rules)

    def __bool__(self):
        return True
