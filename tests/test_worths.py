"""Promise 5: worths and signs."""

import unittest

from replaytravel.worths import brought, told_by

LOW, HIGH = -32768, 32767


class BroughtTest(unittest.TestCase):
    def test_worths_stay(self):
        for n in range(LOW, HIGH + 1, 97):
            self.assertEqual(brought(n), n)

    def test_the_ends(self):
        self.assertEqual([brought(n) for n in (-32769, -32768, 32767, 32768)], [32767, -32768, 32767, -32768])

    def test_next_to_rounds(self):
        rounds = [1, 2, 3, 1000, 10 ** 9, 10 ** 24]
        for times in [sign * many for many in rounds for sign in (1, -1)]:
            for near in (LOW - 1, LOW, -1, 0, 1, HIGH, HIGH + 1):
                with self.subTest(times=times, near=near):
                    self.assertEqual(brought(times * 65536 + near), {LOW - 1: HIGH, HIGH + 1: LOW}.get(near, near))

    def test_thirty_figures(self):
        for n in (10 ** 30 - 1, -(10 ** 30 - 1), 10 ** 29, -(10 ** 29), 123456789012345678901234567890):
            with self.subTest(n=n):
                worth = brought(n)
                self.assertTrue(LOW <= worth <= HIGH)
                self.assertEqual((n - worth) % 65536, 0)

    def test_by_name(self):
        self.assertEqual(brought(n=65536), 0)

    def test_a_worth_is_no_truth(self):
        self.assertIs(type(brought(65537)), int)


class SignsTest(unittest.TestCase):
    def told(self, sign, rows):
        for one, other, worth in rows:
            with self.subTest(sign=sign, one=one, other=other):
                told = told_by(sign, one, other)
                self.assertIs(type(told), int)
                self.assertEqual(told, worth)

    def test_sum(self):
        self.told("+", [(2, 3, 5), (-2, 3, 1), (0, 0, 0), (HIGH, 1, LOW), (LOW, -1, HIGH), (LOW, LOW, 0),
                        (HIGH, HIGH, -2), (LOW, HIGH, -1)])

    def test_difference(self):
        self.told("-", [(2, 3, -1), (3, 2, 1), (0, LOW, LOW), (LOW, 1, HIGH), (HIGH, -1, LOW), (LOW, HIGH, 1),
                        (HIGH, LOW, -1), (7, 0, 7)])

    def test_product(self):
        self.told("*", [(2, 3, 6), (-2, 3, -6), (256, 256, 0), (181, 182, -32594), (LOW, LOW, 0), (LOW, -1, LOW),
                        (HIGH, HIGH, 1), (HIGH, LOW, LOW), (5, 0, 0)])

    def test_quotient(self):
        self.told("/", [(7, 2, 3), (-7, 2, -4), (7, -2, -4), (-7, -2, 3), (6, 3, 2), (7, 0, 0), (0, 0, 0), (LOW, 0, 0),
                        (HIGH, 0, 0), (LOW, -1, LOW), (LOW, 1, LOW), (HIGH, LOW, -1), (LOW, HIGH, -2), (1, LOW, -1)])

    def test_rest(self):
        self.told("#", [(7, 2, 1), (-7, 2, 1), (7, -2, -1), (-7, -2, -1), (6, 3, 0), (7, 0, 0), (0, 0, 0), (LOW, 0, 0),
                        (HIGH, 0, 0), (LOW, -1, 0), (HIGH, LOW, -1), (LOW, HIGH, 32766), (1, LOW, -32767)])

    def test_less(self):
        self.told("<", [(1, 2, 1), (2, 1, 0), (2, 2, 0), (-1, 0, 1), (0, 0, 0), (1, 0, 0), (LOW, HIGH, 1),
                        (HIGH, LOW, 0)])

    def test_alike(self):
        self.told("=", [(1, 2, 0), (2, 2, 1), (0, 0, 1), (-1, -1, 1), (LOW, HIGH, 0), (LOW, LOW, 1), (5, 0, 0)])

    def test_bits_of_both(self):
        self.told("&", [(12, 10, 8), (-1, 77, 77), (-2, -3, -4), (LOW, HIGH, 0), (LOW, -1, LOW), (5, 0, 0)])

    def test_bits_of_one(self):
        self.told("^", [(12, 10, 6), (-1, 77, -78), (-2, -3, 3), (LOW, HIGH, -1), (LOW, LOW, 0), (5, 0, 5),
                        (-1, LOW, HIGH)])

    def test_quotient_and_rest_come_together(self):
        for one in (LOW, -100, -7, -1, 0, 1, 7, 100, HIGH):
            for other in (LOW, -3, -1, 1, 3, HIGH):
                rest = told_by("#", one, other)
                with self.subTest(one=one, other=other):
                    self.assertEqual(rest, one - other * (one // other))

    def test_by_name(self):
        self.assertEqual(told_by(other=3, one=2, sign="-"), -1)


if __name__ == "__main__":
    unittest.main()
