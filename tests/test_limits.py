import unittest

from pileworn import limits


class LimitsTest(unittest.TestCase):
    def test_the_seven_names_have_their_values(self):
        named = {name: getattr(limits, name) for name in dir(limits) if not name.startswith("_")}
        self.assertEqual(named, {
            "MOST_PLATES": 10,
            "MOST_AWAY": 2,
            "MOST_DAYS": 6,
            "MOST_TAKEN": 6,
            "MOST_UNDER": 9,
            "MOST_SEEN": 5,
            "MOST_EXCHANGES": 5,
        })
        self.assertEqual({value.__class__ for value in named.values()}, {int})


if __name__ == "__main__":
    unittest.main()
