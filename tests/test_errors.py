"""Promise 3: the refusals; and the bounds."""

import unittest

from replaytravel import bounds, errors

REFUSALS = {
    "NoText": (ValueError, ("nth",)),
    "NotAhead": (ValueError, ("one", "other")),
    "NoRow": (ValueError, ("said",)),
    "NotReady": (RuntimeError, ("nth", "who", "what")),
    "NoReplay": (RuntimeError, ("stopped",)),
    "NoPlace": (IndexError, ("asked",)),
    "NoTime": (IndexError, ("asked",)),
    "NoStep": (KeyError, ("asked",)),
    "NoPair": (KeyError, ("one", "other")),
    "NoThread": (LookupError, ("asked",)),
    "NoSource": (LookupError, ("asked",)),
    "TooMany": (OverflowError, ("most",)),
    "TooLong": (ArithmeticError, ("limit",)),
    "NotYet": (Exception, ("what",)),
}


class RefusalsTest(unittest.TestCase):
    def test_each_stands_straight_under_its_class(self):
        for name, (base, _) in REFUSALS.items():
            with self.subTest(name=name):
                self.assertEqual(getattr(errors, name).__bases__, (base,))

    def test_there_are_no_others(self):
        own = [name for name, thing in vars(errors).items() if isinstance(thing, type)]
        self.assertEqual(sorted(own), sorted(REFUSALS))

    def test_fields_by_place_are_the_very_things(self):
        for name, (_, fields) in REFUSALS.items():
            things = [[field] for field in fields]
            refusal = getattr(errors, name)(*things)
            for field, thing in zip(fields, things):
                with self.subTest(name=name, field=field):
                    self.assertIs(getattr(refusal, field), thing)

    def test_fields_by_name(self):
        for name, (_, fields) in REFUSALS.items():
            things = {field: {field: 0} for field in reversed(fields)}
            refusal = getattr(errors, name)(**things)
            for field in fields:
                with self.subTest(name=name, field=field):
                    self.assertIs(getattr(refusal, field), things[field])

    def test_a_field_may_be_what_cannot_be_shown(self):
        huge = 10 ** 5000
        self.assertIs(errors.NoTime(huge).asked, huge)

    def test_each_needs_all_its_fields(self):
        for name, (_, fields) in REFUSALS.items():
            with self.subTest(name=name):
                with self.assertRaises(TypeError):
                    getattr(errors, name)(*fields[1:])
                with self.assertRaises(TypeError):
                    getattr(errors, name)(*fields, None)


class BoundsTest(unittest.TestCase):
    def test_the_four_numbers(self):
        own = {name: worth for name, worth in vars(bounds).items() if not name.startswith("_")}
        self.assertEqual(own, {"MOST": 400, "BOUND": 60, "MOST_TURNS": 2000, "MOST_STATES": 2000})


if __name__ == "__main__":
    unittest.main()
