import random
import unittest

from pileworn.desks import Desk
from pileworn.errors import (
    Broken, InUse, InvalidName, InvalidNumber, InvalidWish, NoAnswer, NotARule, NothingToUndo, UnknownName)
from pileworn.mends import fault
from pileworn.rules import Rule
from tests.cases import NEVER, NO_INTEGERS, NO_RULES, OUT, SWAP, UNDER, WHEEL, RaisingTestCase
from tests.test_mends import NO_WISHES
from tests.values import of_all_kinds

STILL = Rule("plates 3 away 0", "rest")
TURNED = WHEEL.with_row(1, "take 1 to 2 back bottom turned")
SINGLE = WHEEL.with_row(1, "take 1 to 1 back bottom kept")
PROPERTIES = ("names", "wishes", "changes")

NO_NAMES = [value for value in of_all_kinds() if value not in ("x", "rest")] + [
    "Blue", "bluE", "blue ", " blue", "blue\n", "bl ue", "blue1", "blue_", "blue-green", "ninechars", "abcdefghi", "`",
    "{", "\u00e4", "bl\u00fce", "\uff41", ("blue",), ["blue"], b"blue"]


def told(desk):
    return [getattr(desk, name) for name in PROPERTIES] + [len(desk), [desk.named(name) for name in desk.names]]


class PlainDesk:
    """A desk that asks each wish one by one, and keeps all that it was."""

    def __init__(self):
        self.now = ({}, ())
        self.past = []

    def change(self, rules, wishes):
        for index, wish in enumerate(wishes):
            rule = rules[wish[0] if len(wish) == 2 else wish[1]]
            shown = fault(rule, wish[1] if len(wish) == 2 else ("alike", rules[wish[2]]))
            if shown is not None:
                raise Broken(index, shown)
        self.past.append(self.now)
        self.now = (rules, wishes)

    def names_of(self, wish):
        return [wish[0]] if len(wish) == 2 else list(wish[1:])

    def put(self, name, rule):
        self.change({**self.now[0], name: rule}, self.now[1])

    def drop(self, name):
        if name not in self.now[0]:
            raise UnknownName(name)
        for index, wish in enumerate(self.now[1]):
            if name in self.names_of(wish):
                raise InUse(index)
        self.change({key: rule for key, rule in self.now[0].items() if key != name}, self.now[1])

    def wish(self, wish):
        for name in self.names_of(wish):
            if name not in self.now[0]:
                raise UnknownName(name)
        self.change(self.now[0], self.now[1] + (wish,))

    def lift(self, index):
        if not 0 <= index < len(self.now[1]):
            raise InvalidNumber(index)
        self.change(self.now[0], tuple(wish for at, wish in enumerate(self.now[1]) if at != index))

    def undo(self):
        if not self.past:
            raise NothingToUndo()
        self.now = self.past.pop()

    def told(self):
        rules, wishes = self.now
        return [tuple(sorted(rules)), wishes, len(self.past), len(rules), [rules[name] for name in sorted(rules)]]


def some_deed(chooser, desk):
    """The name of a method and its arguments; more puttings and wishes than others."""
    rules = (WHEEL, NEVER, TURNED, SWAP, STILL, OUT, UNDER)
    name, other = chooser.choice("abc"), chooser.choice("abcd")
    kind = chooser.randrange(14)
    if kind < 5:
        return "put", (name, chooser.choice(rules))
    if kind < 10:
        return "wish", (chooser.choice((
            (name, ("runs",)), (name, ("worn", chooser.randrange(3))), (name, ("rest", chooser.randrange(4), 2)),
            (name, ("lead", 0, 1 + chooser.randrange(3), 1)), (name, ("alike", chooser.choice(rules))),
            ("alike", name, other))),)
    if kind == 10:
        return "drop", (name,)
    if kind == 11:
        return "lift", (chooser.randrange(len(desk.wishes) + 1),)
    return "undo", ()


def done(desk, word, given):
    """What became of the deed: what is raised, with its attributes, or None."""
    try:
        return getattr(desk, word)(*given)
    except (Broken, InUse, UnknownName, InvalidNumber, NothingToUndo) as error:
        return error.__class__, vars(error)


class Stopped(Exception):
    pass


class ExamplesTest(RaisingTestCase):
    def test_examples_of_the_document(self):
        desk = Desk()
        desk.put("blue", WHEEL)
        desk.wish(("blue", ("worn", 1)))
        self.assertEqual([desk.names, desk.wishes, desk.changes, desk.tried(len)],
                         [('blue',), (('blue', ('worn', 1)),), 2, 1])
        with self.assertRaises(Broken) as caught:
            desk.put("blue", NEVER)
        self.assertEqual(vars(caught.exception), {"index": 0, "shown": "ever"})


class PlainDeskTest(unittest.TestCase):
    def assert_same(self, desk, plain):
        self.assertEqual(told(desk), plain.told())
        for wish in desk.wishes:
            if len(wish) == 2:
                self.assertIsNone(fault(desk.named(wish[0]), wish[1]))
            else:
                self.assertIsNone(fault(desk.named(wish[1]), ("alike", desk.named(wish[2]))))

    def test_drawn_deeds(self):
        became = []
        for seed in range(60):
            chooser = random.Random(seed)
            desk, plain = Desk(), PlainDesk()
            for _ in range(40):
                word, given = some_deed(chooser, desk)
                ended = done(plain, word, given)
                self.assertEqual(done(desk, word, given), ended, (seed, word, given))
                self.assert_same(desk, plain)
                became.append((word, ended and ended[0]))
        for deed in (("put", None), ("put", Broken), ("wish", None), ("wish", Broken), ("wish", UnknownName),
                     ("drop", None), ("drop", InUse), ("drop", UnknownName), ("lift", None), ("lift", InvalidNumber),
                     ("undo", None)):
            self.assertGreater(became.count(deed), 10, deed)
        self.assertIn(("undo", NothingToUndo), became)

    def test_all_taken_back_and_done_anew(self):
        for seed in range(20):
            chooser = random.Random(1000 + seed)
            desk = Desk()
            deeds, steps = [], [told(desk)]
            for _ in range(40):
                word, given = some_deed(chooser, desk)
                if word != "undo" and done(desk, word, given) is None:
                    deeds.append((word, given))
                    steps.append(told(desk))
            for step in steps[-2::-1]:
                self.assertIsNone(desk.undo())
                self.assertEqual(told(desk), step)
            self.assertRaises(NothingToUndo, desk.undo)
            for (word, given), step in zip(deeds, steps[1:]):
                self.assertIsNone(done(desk, word, given))
                self.assertEqual(told(desk), step)

    def test_drawn_deeds_in_trials(self):
        for seed in range(60):
            chooser = random.Random(2000 + seed)
            desk = Desk()
            for _ in range(6):
                done(desk, *some_deed(chooser, desk))
            self.in_trials(chooser, desk, desk.trial(), 3)

    def in_trials(self, chooser, desk, trial, depth):
        """Trials within trials, of one object or of others, that end well or with an exception."""
        for _ in range(3):
            before, fails = told(desk), chooser.randrange(2)
            end = None
            try:
                with chooser.choice((trial, desk.trial())) as held:
                    self.assertIs(held, desk)
                    for _ in range(chooser.randrange(5)):
                        done(desk, *some_deed(chooser, desk))
                    if depth:
                        self.in_trials(chooser, desk, trial, depth - 1)
                    end = told(desk)
                    if fails:
                        raise Stopped()
            except Stopped:
                self.assertTrue(fails)
            self.assertEqual(told(desk), before if fails else end)


class DeskTest(RaisingTestCase):
    def test_an_empty_desk(self):
        desk = Desk()
        self.assertEqual(told(desk), [(), (), 0, 0, []])
        self.assertIs(bool(desk), True)
        self.assertRaises(NothingToUndo, desk.undo)
        self.assertEqual(told(desk), [(), (), 0, 0, []])

    def test_methods_return_none(self):
        desk = Desk()
        told = [desk.put("a", WHEEL), desk.wish(("a", ("runs",))), desk.lift(0), desk.drop("a"), desk.undo()]
        self.assertEqual(told, [None] * 5)

    def test_names_ascending(self):
        desk = Desk()
        for name in ("blue", "b", "zzzzzzzz", "a", "green", "abcdefgh", "aa"):
            desk.put(name, WHEEL)
        self.assertEqual(desk.names, ("a", "aa", "abcdefgh", "b", "blue", "green", "zzzzzzzz"))
        self.assertEqual((len(desk), desk.changes), (7, 7))

    def test_putting_in_the_place_of_another_rule(self):
        desk = Desk()
        desk.put("a", WHEEL)
        desk.put("b", NEVER)
        desk.put("a", SWAP)
        self.assertEqual((desk.named("a"), desk.named("b"), len(desk)), (SWAP, NEVER, 2))
        desk.undo()
        self.assertIs(desk.named("a"), WHEEL)

    def test_a_change_by_which_nothing_became_other(self):
        desk = Desk()
        desk.put("a", WHEEL)
        desk.put("a", WHEEL)
        desk.wish(("a", ("runs",)))
        desk.wish(("a", ("runs",)))
        self.assertEqual((desk.changes, desk.wishes), (4, (("a", ("runs",)),) * 2))
        desk.lift(0)
        self.assertEqual((desk.changes, desk.wishes), (5, (("a", ("runs",)),)))
        for changes in (4, 3, 2, 1):
            desk.undo()
            self.assertEqual((desk.changes, desk.named("a")), (changes, WHEEL))

    def test_wishes_are_asked_in_their_order(self):
        desk = Desk()
        desk.put("a", WHEEL)
        desk.put("b", WHEEL)
        for wish in (("b", ("worn", 1)), ("a", ("rest", 1, 5)), ("a", ("worn", 3)), ("alike", "a", "b"),
                     ("a", ("runs",))):
            desk.wish(wish)
        self.assert_broken(desk, 1, "ever", "put", "a", NEVER)
        self.assert_broken(desk, 0, "ever", "put", "b", NEVER)
        self.assert_broken(desk, 2, "ever", "put", "a", TURNED)
        self.assert_broken(desk, 3, (), "put", "a", SINGLE)
        self.assert_broken(desk, 3, (), "put", "b", SINGLE)
        self.assert_broken(desk, 1, "out", "put", "a", OUT)
        self.assert_broken(desk, 3, "plates", "put", "b", SWAP.with_row(1, "take 1 to 1 back bottom kept"))
        desk.lift(3)
        desk.put("a", SINGLE)
        self.assert_broken(desk, 4, (), "wish", ("alike", "a", "b"))
        self.assert_broken(desk, 4, (), "wish", ("alike", "b", "a"))
        self.assert_broken(desk, 4, "plates", "wish", ("a", ("lead", 0, 3, 1)))
        self.assert_broken(desk, 4, "plates", "wish", ("b", ("rest", 3, 1)))
        self.assert_broken(desk, 4, 2, "wish", ("b", ("rest", 0, 1)))

    def assert_broken(self, desk, index, shown, word, *given):
        before = told(desk)
        with self.assertRaises(Broken) as caught:
            getattr(desk, word)(*given)
        self.assertEqual(vars(caught.exception), {"index": index, "shown": shown})
        self.assertEqual(told(desk), before)

    def test_alike(self):
        desk = Desk()
        desk.put("a", WHEEL)
        desk.put("alike", WHEEL)
        # The word of a triple is a name, too.
        for wish in (("alike", "a", "alike"), ("alike", "a", "a"), ("alike", ("worn", 1)), ("a", ("alike", WHEEL))):
            desk.wish(wish)
        self.assertEqual(len(desk.wishes), 4)
        self.assert_broken(desk, 0, (2, 2), "put", "alike", TURNED)
        desk.lift(0)
        desk.put("alike", SINGLE)
        self.assert_broken(desk, 2, (2, 2), "put", "a", TURNED)

    def test_equal_to_itself_alone(self):
        one, other = Desk(), Desk()
        self.assertTrue(one == one and one != other and not one == other and not one != one)
        for value in of_all_kinds():
            self.assertTrue(one != value and not one == value)

    def test_two_desks_do_not_know_of_one_another(self):
        one, other = Desk(), Desk()
        one.put("a", WHEEL)
        self.assertEqual(told(other), [(), (), 0, 0, []])
        other.put("a", NEVER)
        other.wish(("a", ("runs",)))
        self.assertEqual(told(one), [("a",), (), 1, 1, [WHEEL]])
        with one.trial():
            other.undo()
            other.undo()
        self.assertEqual((told(one)[0], told(other)[0]), (("a",), ()))

    def test_what_was_handed_out_stays(self):
        desk = Desk()
        desk.put("a", WHEEL)
        desk.wish(("a", ("runs",)))
        handed = [(desk.names, desk.wishes, desk.changes)]
        copies = [str(handed[0])]
        desk.put("b", WHEEL)
        desk.lift(0)
        desk.drop("a")
        self.assertEqual([str(value) for value in handed], copies)
        for name in PROPERTIES:
            with self.assertRaises(AttributeError):
                setattr(desk, name, ())

    def test_by_name(self):
        desk = Desk()
        desk.put(rule=WHEEL, name="a")
        desk.wish(wish=("a", ("runs",)))
        self.assertEqual((desk.named(name="a"), desk.tried(action=len)), (WHEEL, 1))
        desk.lift(index=0)
        desk.drop(name="a")
        self.assertEqual(desk.changes, 4)

    def test_many_changes(self):
        desk = Desk()
        for _ in range(20000):
            desk.put("a", WHEEL)
        self.assertEqual(desk.changes, 20000)
        for _ in range(20000):
            desk.undo()
        self.assertEqual(told(desk), [(), (), 0, 0, []])
        for _ in range(60000):
            desk.put("a", WHEEL)
        del desk


class TrialTest(unittest.TestCase):
    def setUp(self):
        self.desk = Desk()
        self.desk.put("a", WHEEL)
        self.desk.wish(("a", ("worn", 1)))

    def test_a_trial_that_ends_well(self):
        with self.desk.trial() as held:
            self.assertIs(held, self.desk)
            held.put("b", NEVER)
        self.assertEqual((self.desk.names, self.desk.changes), (("a", "b"), 3))

    def test_exceptions_are_passed_on(self):
        for error in (Stopped(), KeyboardInterrupt(), GeneratorExit(), NoAnswer(), StopIteration()):
            before = told(self.desk)
            with self.assertRaises(error.__class__) as caught:
                with self.desk.trial():
                    self.desk.put("b", NEVER)
                    self.desk.lift(0)
                    raise error
            self.assertIs(caught.exception, error)
            self.assertEqual(told(self.desk), before)

    def test_a_refused_change_that_is_not_caught(self):
        with self.assertRaises(Broken):
            with self.desk.trial():
                self.desk.put("b", NEVER)
                self.desk.put("a", NEVER)
        self.assertEqual((self.desk.names, self.desk.changes), (("a",), 2))

    def test_what_was_taken_back_in_a_trial_is_there_again(self):
        with self.assertRaises(Stopped):
            with self.desk.trial():
                self.desk.undo()
                self.desk.undo()
                self.desk.put("c", OUT)
                self.desk.put("d", OUT)
                raise Stopped()
        self.assertEqual(told(self.desk), [("a",), (("a", ("worn", 1)),), 2, 1, [WHEEL]])
        self.desk.undo()
        self.desk.undo()
        self.assertRaises(NothingToUndo, self.desk.undo)

    def test_leaving_early_is_no_exception(self):
        for name in ("b", "c"):
            with self.desk.trial():
                self.desk.put(name, NEVER)
                continue
        self.assertEqual(self.desk.names, ("a", "b", "c"))

    def test_the_desk_is_held_when_the_rows_begin(self):
        trial = self.desk.trial()
        self.desk.put("b", NEVER)
        with self.assertRaises(Stopped):
            with trial:
                self.desk.put("c", NEVER)
                raise Stopped()
        self.assertEqual(self.desk.names, ("a", "b"))
        with self.assertRaises(Stopped):
            with trial:
                self.desk.drop("b")
                raise Stopped()
        self.assertEqual(self.desk.names, ("a", "b"))

    def test_one_object_within_itself(self):
        trial = self.desk.trial()
        with self.assertRaises(Stopped):
            with trial:
                self.desk.put("b", NEVER)
                with trial:
                    self.desk.put("c", NEVER)
                with self.assertRaises(Stopped):
                    with trial:
                        self.desk.put("d", NEVER)
                        with trial:
                            self.desk.put("e", NEVER)
                        raise Stopped()
                self.assertEqual((self.desk.names, self.desk.changes), (("a", "b", "c"), 4))
                raise Stopped()
        self.assertEqual((self.desk.names, self.desk.changes), (("a",), 2))

    def test_one_object_often_within_itself(self):
        for ends in range(2 ** 6):
            trial, fails = self.desk.trial(), [bool(ends >> at & 1) for at in range(6)]
            self.one_within(trial, fails)
            # The same object again, behind rows of it that have ended in one way or the other.
            self.one_within(trial, fails[::-1])

    def one_within(self, trial, fails):
        """Rows of this object within one another, from the outermost on those with True end with an exception."""
        if not fails:
            return
        before, end = told(self.desk), None
        try:
            with trial:
                self.desk.put("b", NEVER)
                self.one_within(trial, fails[1:])
                self.desk.undo()
                self.one_within(trial, fails[2:])
                self.desk.put("c", OUT)
                end = told(self.desk)
                if fails[0]:
                    raise Stopped()
        except Stopped:
            self.assertTrue(fails[0])
        self.assertEqual(told(self.desk), before if fails[0] else end)

    def test_one_object_deep_within_itself(self):
        trial, steps = self.desk.trial(), []
        for _ in range(200):
            steps.append(told(self.desk))
            trial.__enter__()
            self.desk.put("b", NEVER)
        for at in range(199, -1, -1):
            before = told(self.desk)
            kind = Stopped if at in (150, 149, 70) else None
            self.assertFalse(trial.__exit__(kind, None if kind is None else kind(), None))
            self.assertEqual(told(self.desk), steps[at] if kind else before)
        self.assertEqual(told(self.desk), steps[70])

    def test_one_exception_through_all_rows_of_one_object(self):
        trial, before = self.desk.trial(), told(self.desk)
        with self.assertRaises(Broken):
            with trial:
                self.desk.put("b", WHEEL)
                with trial, trial:
                    self.desk.drop("b")
                    with trial:
                        self.desk.put("a", NEVER)
        self.assertEqual(told(self.desk), before)

    def test_changes_behind_rows_that_ended_with_an_exception(self):
        trial = self.desk.trial()
        with trial:
            with self.assertRaises(Stopped):
                with trial:
                    self.desk.put("b", NEVER)
                    raise Stopped()
            self.desk.undo()
            self.assertEqual(told(self.desk), [("a",), (), 1, 1, [WHEEL]])
            self.desk.put("c", OUT)
        self.assertEqual(told(self.desk), [("a", "c"), (), 2, 2, [WHEEL, OUT]])
        self.desk.undo()
        self.desk.undo()
        self.assertEqual(told(self.desk), [(), (), 0, 0, []])
        self.assertRaises(NothingToUndo, self.desk.undo)

    def test_rows_of_two_objects_that_overlap(self):
        first, second = self.desk.trial(), self.desk.trial()
        before = told(self.desk)
        first.__enter__()
        self.desk.put("b", NEVER)
        between = told(self.desk)
        second.__enter__()
        self.desk.put("c", NEVER)
        self.assertFalse(first.__exit__(Stopped, Stopped(), None))
        self.assertEqual(told(self.desk), before)
        self.assertFalse(second.__exit__(Stopped, Stopped(), None))
        self.assertEqual(told(self.desk), between)

    def test_tried(self):
        self.assertEqual(self.desk.tried(lambda desk: desk.put("b", NEVER)), None)
        self.assertEqual(self.desk.tried(lambda desk: (desk is self.desk, len(desk))), (True, 2))
        before = told(self.desk)

        def action(desk):
            desk.drop("b")
            desk.tried(lambda same: same.put("c", OUT))
            desk.wish(("c", ("runs",)))

        with self.assertRaises(Broken) as caught:
            self.desk.tried(action)
        self.assertEqual(vars(caught.exception), {"index": 1, "shown": (2, 2)})
        self.assertEqual(told(self.desk), before)

    def test_trials_of_two_desks(self):
        other = Desk()
        with self.assertRaises(Stopped):
            with self.desk.trial(), other.trial():
                other.put("x", WHEEL)
                self.desk.put("x", WHEEL)
                raise Stopped()
        self.assertEqual((self.desk.names, other.names), (("a",), ()))
        with self.desk.trial():
            with self.assertRaises(Stopped):
                with other.trial():
                    other.put("x", WHEEL)
                    self.desk.put("x", WHEEL)
                    raise Stopped()
        self.assertEqual((self.desk.names, other.names), (("a", "x"), ()))


class ErrorsTest(RaisingTestCase):
    def setUp(self):
        self.desk = Desk()
        self.desk.put("a", WHEEL)
        self.desk.put("b", WHEEL)
        self.desk.put("c", NEVER)
        for wish in (("b", ("worn", 1)), ("alike", "a", "b"), ("a", ("runs",))):
            self.desk.wish(wish)
        self.before = told(self.desk)

    def tearDown(self):
        self.assertEqual(told(self.desk), self.before)

    def test_no_name(self):
        for name in NO_NAMES:
            for rule in (WHEEL, None):
                self.assert_raised(InvalidName, "given", name, self.desk.put, name, rule)
                self.assert_raised(InvalidName, "given", name, self.desk.put, rule=rule, name=name)

    def test_no_rule(self):
        for value in NO_RULES:
            for name in ("a", "d", "zzzzzzzz"):
                self.assert_raised(NotARule, "given", value, self.desk.put, name, value)

    def test_unknown_names(self):
        for name in NO_NAMES + ["d", "aa", "rest", "x"]:
            self.assert_raised(UnknownName, "given", name, self.desk.named, name)
            self.assert_raised(UnknownName, "given", name, self.desk.drop, name)
            self.assert_raised(UnknownName, "given", name, self.desk.wish, (name, ("worn", 0)))
            self.assert_raised(UnknownName, "given", name, self.desk.wish, ("alike", name, None))
            self.assert_raised(UnknownName, "given", name, self.desk.wish, ("alike", "c", name))
            self.assert_raised(UnknownName, "given", name, self.desk.named, name=name)

    def test_no_wish(self):
        wrong = of_all_kinds() + [
            ("alike",), ("alike", "a"), ("alike", "a", "b", "c"), ["alike", "a", "b"], ("Alike", "a", "b"),
            ("a", "b", "c"), ("a", "alike", "b"), (None, "a", "b"), ["a", ("runs",)], ("a", ["runs"]), ("a", ("runs",), 1),
            (("runs",), "a"), ("runs",), ("worn", 1), ("rest", 0, 1), ("a",), ("a", ("alike", "a", "b")),
            ("a", ("alike", "b"))]
        wrong += [(name, wish) for wish in NO_WISHES for name in ("a", "d", None)]
        for wish in wrong:
            self.assert_raised(InvalidWish, "given", wish, self.desk.wish, wish)
        self.assert_raised(InvalidWish, "given", None, self.desk.wish, wish=None)

    def test_names_in_use(self):
        self.assert_raised(InUse, "index", 0, self.desk.drop, "b")
        self.assert_raised(InUse, "index", 1, self.desk.drop, "a")
        with self.assertRaises(Stopped):
            with self.desk.trial():
                self.desk.drop("c")
                self.desk.lift(0)
                self.assert_raised(InUse, "index", 0, self.desk.drop, "b")
                self.desk.lift(0)
                self.desk.drop("b")
                self.assert_raised(InUse, "index", 0, self.desk.drop, "a")
                self.desk.lift(0)
                self.desk.drop("a")
                self.assertEqual((self.desk.names, self.desk.wishes), ((), ()))
                self.assert_raised(InvalidNumber, "given", 0, self.desk.lift, 0)
                raise Stopped()

    def test_no_index(self):
        for value in NO_INTEGERS + [-1, -3, 3, 4, 10 ** 39, -10 ** 39]:
            self.assert_raised(InvalidNumber, "given", value, self.desk.lift, value)
            self.assert_raised(InvalidNumber, "given", value, self.desk.lift, index=value)

    def test_nothing_to_undo(self):
        with self.assertRaises(NothingToUndo) as caught:
            Desk().undo()
        self.assertEqual(vars(caught.exception), {})

    def test_refused_changes_are_none(self):
        for word, given in (("put", ("b", NEVER)), ("put", ("a", TURNED)), ("wish", (("c", ("worn", 1)),)),
                            ("drop", ("a",))):
            self.assertIsNotNone(done(self.desk, word, given))
            self.assertEqual(told(self.desk), self.before)


if __name__ == "__main__":
    unittest.main()
