import unittest

from pileworn import errors
from tests.values import of_all_kinds

BASES = {"WrongValue": ValueError, "WrongName": LookupError, "NoAnswer": ArithmeticError}

# Each class with the one that it is under and its attributes in their order.
LISTED = {
    "InvalidText": ("WrongValue", ("given",)),
    "InvalidNumber": ("WrongValue", ("given",)),
    "InvalidPlate": ("WrongValue", ("given",)),
    "InvalidName": ("WrongValue", ("given",)),
    "InvalidWish": ("WrongValue", ("given",)),
    "NotARule": ("WrongValue", ("given",)),
    "InvalidRows": ("WrongValue", ("index",)),
    "InvalidChoices": ("WrongValue", ("index",)),
    "InvalidTakes": ("WrongValue", ("index",)),
    "InvalidSeen": ("WrongValue", ("index",)),
    "InvalidExchanges": ("WrongValue", ("index",)),
    "InvalidWishes": ("WrongValue", ("index",)),
    "UnknownName": ("WrongName", ("given",)),
    "InUse": ("WrongName", ("index",)),
    "NotLet": ("NoAnswer", ("given",)),
    "NotRound": ("NoAnswer", ("given",)),
    "RunsOut": ("NoAnswer", ("shown",)),
    "Broken": ("NoAnswer", ("index", "shown")),
    "NothingToUndo": ("NoAnswer", ()),
}


def named(name):
    return getattr(errors, name)


def own_classes():
    return {name: value for name, value in vars(errors).items() if isinstance(value, type)}


class ClassesTest(unittest.TestCase):
    def test_all_listed_classes_are_there_and_no_others(self):
        self.assertEqual(sorted(own_classes()), sorted([*BASES, *LISTED]))
        for name, value in own_classes().items():
            self.assertEqual((value.__name__, value.__module__), (name, "pileworn.errors"))

    def test_bases_are_under_the_classes_of_python(self):
        for name, under in BASES.items():
            self.assertEqual(named(name).__bases__, (under,))

    def test_each_class_is_under_its_base_and_under_no_other_class_of_the_package(self):
        for name, (under, _) in LISTED.items():
            above = {other for other, value in own_classes().items() if issubclass(named(name), value)}
            self.assertEqual(above, {name, under})

    def test_each_class_is_under_the_one_of_python_of_its_base(self):
        for name, (under, _) in LISTED.items():
            for base, python in BASES.items():
                self.assertEqual(issubclass(named(name), python), base == under, (name, python))


class AttributesTest(unittest.TestCase):
    def test_bases_are_made_without_attributes(self):
        for name in BASES:
            self.assertEqual(vars(named(name)()), {})

    def test_by_position_and_by_name_with_values_of_all_kinds(self):
        for name, (_, attributes) in LISTED.items():
            if len(attributes) == 1:
                for value in of_all_kinds():
                    self.check(named(name)(value), {attributes[0]: value})
                    self.check(named(name)(**{attributes[0]: value}), {attributes[0]: value})

    def test_two_attributes_in_every_manner(self):
        for value in of_all_kinds():
            for index, shown in ((0, value), (value, "ever"), (value, value)):
                held = {"index": index, "shown": shown}
                self.check(errors.Broken(index, shown), held)
                self.check(errors.Broken(index, shown=shown), held)
                self.check(errors.Broken(index=index, shown=shown), held)
                self.check(errors.Broken(shown=shown, index=index), held)

    def test_nothing_to_undo_has_no_attributes(self):
        self.assertEqual(vars(errors.NothingToUndo()), {})

    def test_other_names_and_missing_values_are_refused(self):
        for name, (_, attributes) in LISTED.items():
            if attributes:
                self.assertRaises(TypeError, named(name))
                self.assertRaises(TypeError, named(name), *attributes, "more")
                self.assertRaises(TypeError, named(name), **{"other": 1})

    def test_what_is_raised_is_caught_by_its_base(self):
        for name, (under, attributes) in LISTED.items():
            with self.assertRaises(named(under)) as caught:
                raise named(name)(*attributes)
            self.check(caught.exception, {attribute: attribute for attribute in attributes})

    def check(self, error, held):
        self.assertEqual(sorted(vars(error)), sorted(held))
        for attribute, value in held.items():
            self.assertIs(getattr(error, attribute), value)


if __name__ == "__main__":
    unittest.main()
