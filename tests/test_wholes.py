"""Promise 2: what a whole number is; and how one is written."""

import unittest

from replaytravel.wholes import is_below, is_whole, whole_of
from tests.helpers import anything


class WholesTest(unittest.TestCase):
    def test_truths_are_none(self):
        for thing in anything():
            with self.subTest(kind=type(thing).__name__):
                self.assertIs(is_whole(thing), type(thing) is int)

    def test_below(self):
        self.assertEqual([thing for thing in (-1, 0, 1, 2, 3, True, False, None, "1") if is_below(thing, 2)], [0, 1])
        self.assertIs(is_below(0, 0), False)

    def test_written(self):
        for number in (0, 1, 9, 10, 100, 12345678, 123456789, 999999999):
            self.assertEqual(whole_of(f"{number}"), number)
        for text in ("", "00", "01", "-1", "-0", "+1", " 1", "1 ", "1\n", "1_0", "a", "1a", "1.0", "1000000000",
                     "9" * 5000):
            with self.subTest(text=text[:20]):
                self.assertIsNone(whole_of(text))


if __name__ == "__main__":
    unittest.main()
