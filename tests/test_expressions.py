"""Promise 6: expressions, reckoned, shown and read."""

import unittest

from replaytravel.errors import NoText
from replaytravel.expressions import is_expression, read_expression, reckoned, show_expression
from tests.helpers import LETTERS, SIGNS, anything, drawn, refused_text, some_expression

FIFTEEN = ("a",) * 8 + ("+",) * 7


class IsExpressionTest(unittest.TestCase):
    def test_of_anything(self):
        for thing in anything():
            with self.subTest(kind=type(thing).__name__):
                self.assertIs(is_expression(thing), thing == ("a",) or thing == (0,))

    def test_each_letter_and_sign(self):
        for letter in LETTERS:
            self.assertIs(is_expression((letter,)), True)
        for sign in SIGNS:
            self.assertIs(is_expression((1, "a", sign)), True)

    def test_how_many_items(self):
        self.assertIs(is_expression(()), False)
        self.assertIs(is_expression((5,)), True)
        self.assertEqual(len(FIFTEEN), 15)
        self.assertIs(is_expression(FIFTEEN), True)
        # Whole ones have an odd number of items: sixteen never leave just one.
        self.assertIs(is_expression(("a",) * 8 + ("+",) * 8), False)
        self.assertIs(is_expression(("a",) * 9 + ("+",) * 7), False)
        self.assertIs(is_expression(("a",) * 9 + ("+",) * 8), False)

    def test_worths(self):
        for worth in (-32768, -1, 0, 1, 32767):
            self.assertIs(is_expression((worth,)), True)
        for number in (-32769, 32768, 10 ** 29, True, False):
            with self.subTest(number=number):
                self.assertIs(is_expression((number,)), False)
                self.assertIs(is_expression((1, number, "+")), False)

    def test_letters_that_are_none(self):
        for word in ("q", "z", "A", "P", "", "ab", "aa", " ", "0", "a ", "bc", "\n", "`"):
            with self.subTest(word=word):
                self.assertIs(is_expression((word,)), False)

    def test_signs_that_are_none(self):
        for word in ("%", "//", "+-", "**", "", "!", "|", ">", "<=", "~"):
            with self.subTest(word=word):
                self.assertIs(is_expression((1, 2, word)), False)

    def test_the_pile(self):
        for good in ((1, 2, "+"), (1, 2, 3, "+", "+"), (1, 2, "+", 3, "+"), ("a", 3, "+", "b", "*")):
            self.assertIs(is_expression(good), True)
        for bad in (("+",), (1, "+"), ("+", 1), (1, "+", 2), (1, 2), (1, 2, "+", "+"), (1, 2, "+", "+", 3),
                    (1, 2, 3, "+"), (1, "+", 2, 3)):
            with self.subTest(bad=bad):
                self.assertIs(is_expression(bad), False)

    def test_within_others(self):
        for bad in ([1], ["a"], [1, 2, "+"], ((1,),), ([1],), (1, (2,), "+"), ({"a": 1},), (None,), "a", "a 3 +"):
            with self.subTest(bad=bad):
                self.assertIs(is_expression(bad), False)

    def test_by_name(self):
        self.assertIs(is_expression(thing=("a",)), True)


class ReckonedTest(unittest.TestCase):
    def test_the_uppermost_is_the_second(self):
        self.assertEqual(reckoned((7, 2, "-"), {}), 5)
        self.assertEqual(reckoned((7, 2, "/"), {}), 3)
        self.assertEqual(reckoned((1, 2, "<"), {}), 1)

    def test_from_the_left(self):
        self.assertEqual(reckoned(("a", 3, "+", "b", "*"), {"a": 4, "b": -2}), -14)
        self.assertEqual(reckoned((10, 4, 3, "-", "-"), {}), 9)
        self.assertEqual(reckoned((10, 4, "-", 3, "-"), {}), 3)

    def test_brought_at_each_sign(self):
        self.assertEqual(reckoned((32767, 1, "+", 2, "/"), {}), -16384)

    def test_each_sign(self):
        told = [reckoned((13, 5, sign), {}) for sign in SIGNS]
        self.assertEqual(told, [18, 8, 65, 2, 3, 0, 0, 5, 8])

    def test_one_item(self):
        self.assertEqual(reckoned((-32768,), {}), -32768)
        self.assertEqual(reckoned(("p",), {"p": 9}), 9)

    def test_letters_that_are_not_there(self):
        held = {"b": 5}
        self.assertEqual(reckoned(("a",), held), 0)
        self.assertEqual(reckoned(("a", "b", "-"), held), -5)
        self.assertEqual(held, {"b": 5})

    def test_fifteen_items(self):
        self.assertEqual(reckoned(FIFTEEN, {"a": 3}), 24)

    def test_by_name(self):
        self.assertEqual(reckoned(registers={"a": 2}, e=("a",)), 2)


class TextTest(unittest.TestCase):
    def test_the_text_of_the_document(self):
        self.assertEqual(show_expression(("a", 3, "+", "b", "*")), "a 3 + b *")
        self.assertEqual(read_expression("a 3 + b *"), ("a", 3, "+", "b", "*"))

    def test_worths(self):
        for worth in (-32768, -10, -1, 0, 1, 9, 10, 100, 32767):
            with self.subTest(worth=worth):
                self.assertEqual(show_expression((worth,)), f"{worth}")
                self.assertEqual(read_expression(f"{worth}"), (worth,))
                self.assertIs(type(read_expression(f"{worth}")[0]), int)

    def test_minus_and_below_zero(self):
        self.assertEqual(show_expression((-1, 1, "-")), "-1 1 -")
        self.assertEqual(read_expression("-1 1 -"), (-1, 1, "-"))

    def test_one_way_and_back(self):
        kinds = set()
        for seed in range(200):
            e = some_expression(drawn(seed, 20))
            kinds.add(len(e))
            with self.subTest(e=e):
                self.assertIs(is_expression(e), True)
                self.assertEqual(read_expression(show_expression(e)), e)
        self.assertEqual(kinds, {1, 3, 5, 7, 9, 11, 13, 15})

    def test_fifteen_and_more(self):
        self.assertEqual(read_expression(show_expression(FIFTEEN)), FIFTEEN)
        refused_text(self, read_expression, " ".join(["a"] * 9 + ["+"] * 8), 0)

    def test_refused(self):
        for text in ("", " ", "a  3 +", " a", "a ", "01", "-01", "00", "-0", "- 0", "a\n", "\na", "a\n3 +", "a\n3\n+",
                     "\n", "32768", "-32769", "99999", "100000", "--1", "+1", "1+", "a3", "a, b", "q", "A", "aa", "+",
                     "a +", "a b", "a b + +", "a 3 + b", "1 2 //", "1.0", "1_0", "0x1", "1e3", "a\t3", "9" * 5000,
                     "-" + "9" * 5000, "0" * 5000, "1 2 +-", "a  b +", "-", "- 1 2", "thread"):
            refused_text(self, read_expression, text, 0)

    def test_by_name(self):
        self.assertEqual(show_expression(e=(1,)), "1")
        self.assertEqual(read_expression(text="1"), (1,))
        with self.assertRaises(NoText):
            read_expression(text="")


if __name__ == "__main__":
    unittest.main()
