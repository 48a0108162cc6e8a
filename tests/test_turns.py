"""Promises 15 and 16: drawn turns, packed turns, switches."""

import unittest

from replaytravel.runs import Run
from replaytravel.turns import drawn_turns, packed, switches, unpacked
from tests.helpers import drawn, program_of, refused_text

THREE = program_of("set a, 1; set a, 2", "set a, 1; set a, 2", "set a, 1; set a, 2")
NONE = [[], [], []]


class DrawnTest(unittest.TestCase):
    def test_which_of_the_ready_ones(self):
        self.assertEqual(drawn_turns(THREE, NONE, [2, 1, 0, 1, 1, 0]), [2, 1, 0, 1, 2, 0])

    def test_by_what_is_left_of_a_division(self):
        self.assertEqual(drawn_turns(THREE, NONE, [5, 7, 3, 4, 3, 9]), [2, 1, 0, 1, 2, 0])
        self.assertEqual(drawn_turns(THREE, NONE, [10 ** 30 + 1, 10 ** 30]), [2, 1, 0, 0, 1, 2])

    def test_a_tuple_of_numbers(self):
        self.assertEqual(drawn_turns(THREE, NONE, (2, 1, 0, 1, 1, 0)), [2, 1, 0, 1, 2, 0])

    def test_none_and_fewer_and_more(self):
        for numbers in ([], ()):
            self.assertEqual(drawn_turns(THREE, NONE, numbers), [0, 0, 1, 1, 2, 2])
        self.assertEqual(drawn_turns(THREE, NONE, [2]), [2, 0, 0, 1, 1, 2])
        self.assertEqual(drawn_turns(THREE, NONE, [2] * 50), [2, 2, 0, 0, 1, 1])

    def test_only_ready_ones_count(self):
        program = program_of("take a, 0", "lock 0; send 0, 1", "lock 0", "check 0")
        inputs = [[], [], [], []]
        self.assertEqual(drawn_turns(program, inputs, [0, 0, 1]), [1, 1, 3, 0])
        self.assertEqual(drawn_turns(program, inputs, [1, 0]), [2, 3])

    def test_nothing_is_ready(self):
        self.assertEqual(drawn_turns(program_of(""), [[]], [1, 2]), [])
        self.assertEqual(drawn_turns(program_of("take a, 0"), [[]], [1, 2]), [])

    def test_most(self):
        program = program_of("go 0", "go 0")
        self.assertEqual(drawn_turns(program, [[], []], [1]), [1] + [0] * 399)
        self.assertEqual(drawn_turns(program, [[], []], [1, 1, 0], most=0), [])
        self.assertEqual(drawn_turns(program, [[], []], [1, 1, 0], most=1), [1])
        self.assertEqual(drawn_turns(program, [[], []], [1, 1, 0], most=3), [1, 1, 0])
        self.assertEqual(len(drawn_turns(program, [[], []], [1] * 500, most=401)), 401)
        self.assertEqual(drawn_turns(THREE, NONE, [], most=7), [0, 0, 1, 1, 2, 2])

    def test_most_is_by_name_alone(self):
        with self.assertRaises(TypeError):
            drawn_turns(THREE, NONE, [], 3)

    def test_inputs_count(self):
        program = program_of("input a; if a, 0; tell 5")
        self.assertEqual(drawn_turns(program, [[1, 0]], []), [0] * 5)
        self.assertEqual(drawn_turns(program, [[1]], []), [0] * 3)

    def test_what_is_handed_in_stays(self):
        inputs, numbers = [[1, 2], []], [1, 0]
        drawn_turns(program_of("input a", "set a, 1"), inputs, numbers)
        self.assertEqual((inputs, numbers), ([[1, 2], []], [1, 0]))

    def test_they_can_be_done(self):
        program = program_of("lock 0; lock 1; free 1; free 0; send 0, 1", "lock 1; lock 0; free 0; free 1; take a, 0")
        ends = set()
        for seed in range(30):
            turns = drawn_turns(program, [[], []], drawn(seed, 10))
            run = Run(program, [[], []], turns)
            self.assertTrue(run.is_over())
            ends.add(run.machine(len(run)).end())
        self.assertEqual(ends, {"over", "stuck"})

    def test_by_name(self):
        self.assertEqual(drawn_turns(most=2, numbers=[1], inputs=NONE, program=THREE), [1, 0])


class PackedTest(unittest.TestCase):
    def one_way_and_back(self, turns, text):
        with self.subTest(text=text):
            self.assertEqual(packed(turns), text)
            self.assertEqual(unpacked(text), turns)

    def test_texts(self):
        self.one_way_and_back([], "-")
        for thread in (0, 1, 2, 3):
            self.one_way_and_back([thread], f"{thread}")
            self.one_way_and_back([thread] * 2, f"{thread}*2")
        self.one_way_and_back([0, 0, 0, 1, 2, 2, 0], "0*3 1 2*2 0")
        self.one_way_and_back([0, 1, 0, 1], "0 1 0 1")
        self.one_way_and_back([3] * 10 + [1] * 100, "3*10 1*100")

    def test_four_hundred(self):
        self.one_way_and_back([0] * 400, "0*400")
        self.one_way_and_back([0, 1] * 200, " ".join(["0 1"] * 200))
        self.one_way_and_back([2] * 399 + [3], "2*399 3")

    def test_drawn_ones(self):
        for seed in range(60):
            turns = [number % (seed % 4 + 1) for number in drawn(seed, seed * 6)]
            self.assertEqual(unpacked(packed(turns)), turns)

    def test_refused(self):
        for text in ("0*1", "0*0", "0*01", "0*02", "0 0", "0*2 0", "0 0*2", "0*2 0*2", "4", "4*2", "10", "-1", "0*-2",
                     "0  1", " 0", "0 ", " ", "0\n", "\n0", "0\n1", "-\n", "", "\n", "- ", " -", "--", "0 -", "- 0", "*",
                     "0*", "*2", "0*2*2", "0**2", "00", "01", "0 * 2", "0* 2", "0 *2", "a", "0,1", "0*a", "a*2", "0x2",
                     "0*2.0", "+1", "0*+2", "0\t1", "thread", "1 0*1", "0*1 1", "1 0*0 1"):
            refused_text(self, unpacked, text, 0)

    def test_too_many(self):
        for text in ("0*401", "0*400 1", "0*399 1*2", " ".join(["0 1"] * 200 + ["0"]), "1*1000", "1*999999999",
                     "1*9999999999", "1*" + "9" * 5000, " ".join(["0*400 1*400"] * 1000), "0*200 1*200 0"):
            refused_text(self, unpacked, text, 0)

    def test_somewhat_beyond(self):
        self.assertEqual(packed([0] * 401), "0*401")

    def test_turns_stay_and_are_new(self):
        turns = [0, 0, 1]
        packed(turns)
        switches(turns)
        self.assertEqual(turns, [0, 0, 1])
        unpacked("-").append(5)
        self.assertEqual(unpacked("-"), [])

    def test_by_name(self):
        self.assertEqual(packed(turns=[1]), "1")
        self.assertEqual(unpacked(text="1"), [1])


class SwitchesTest(unittest.TestCase):
    def test_how_many(self):
        for turns, many in (([], 0), ([0], 0), ([3], 0), ([0, 0], 0), ([0, 1], 1), ([1, 0], 1), ([0, 1, 0], 2),
                            ([0, 0, 1, 1, 0], 2), ([2, 2, 2, 3, 1, 1], 2), ([0] * 400, 0), ([0, 1] * 200, 399)):
            with self.subTest(turns=turns[:6]):
                self.assertEqual(switches(turns), many)

    def test_by_name(self):
        self.assertEqual(switches(turns=[0, 1]), 1)


if __name__ == "__main__":
    unittest.main()
