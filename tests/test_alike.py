"""Promises 14 (the run again) and 26: alike runs, least turns."""

import unittest

from replaytravel.alike import are_alike, is_again, least_turns
from replaytravel.runs import Run
from tests.helpers import program_of, run_of
from tests.slow import is_run_again, kind_of, small_runs


class AgainTest(unittest.TestCase):
    threads = ("store 1, 1; tell 1", "load a, 1; tell a", "tell 5")

    def again(self, turns, others):
        return is_again(run_of(*self.threads, turns=turns), run_of(*self.threads, turns=others))

    def test_the_very_run_and_beginnings(self):
        for many in range(6):
            self.assertIs(self.again("01012", "01012"[:many]), True)
        run = run_of(*self.threads, turns="01012")
        self.assertIs(is_again(run, run), True)
        self.assertIs(self.again("", ""), True)

    def test_alike_turns(self):
        for others in ("00112", "20110", "01102", "2", "02", "00"):
            self.assertIs(self.again("01012", others), True)

    def test_one_step_more(self):
        self.assertIs(self.again("01", "012"), False)
        self.assertIs(self.again("01", "010"), False)
        self.assertIs(self.again("", "0"), False)

    def test_other_turns(self):
        self.assertIs(self.again("01012", "10012"), False)
        self.assertIs(self.again("01012", "1"), False)
        self.assertIs(self.again("10012", "01012"), False)

    def test_the_same_step_with_another_clock(self):
        # What is loaded is 0 either way.
        threads = ("store 1, 0", "load a, 1")
        self.assertIs(is_again(run_of(*threads, turns="01"), run_of(*threads, turns="10")), False)
        self.assertIs(is_again(run_of(*threads, turns="10"), run_of(*threads, turns="01")), False)
        self.assertIs(is_again(run_of(*threads, turns="01"), run_of(*threads, turns="0")), True)
        self.assertIs(is_again(run_of(*threads, turns="01"), run_of(*threads, turns="1")), False)

    def test_another_program(self):
        run = run_of("tell 1; tell 2", "tell 3", turns="01")
        self.assertIs(is_again(run, run_of("tell 1; tell 3", "tell 3", turns="01")), False)
        self.assertIs(is_again(run, run_of("tell 1", "tell 3", turns="01")), False)
        self.assertIs(is_again(run, run_of("tell 1; tell 2", "tell 3", "", turns="01")), False)
        self.assertIs(is_again(run, run_of("tell 1; tell 3", "tell 3", turns="")), False)

    def test_other_inputs(self):
        run = run_of("input a", turns="0", inputs=[[1, 2]])
        self.assertIs(is_again(run, run_of("input a", turns="0", inputs=[[1, 2]])), True)
        self.assertIs(is_again(run, run_of("input a", turns="0", inputs=[[1, 3]])), False)
        self.assertIs(is_again(run, run_of("input a", turns="0", inputs=[[1]])), False)
        self.assertIs(is_again(run, run_of("input a", turns="", inputs=[[1]])), False)

    def test_drawn_runs(self):
        seen = set()
        for seed, run, others in small_runs(90, 7):
            for other in others:
                with self.subTest(seed=seed, turns=other.turns()):
                    self.assertIs(is_again(run, other), is_run_again(run, other))
                    seen.add(is_again(run, other))
        self.assertEqual(seen, {True, False})

    def test_by_name(self):
        run = run_of("tell 1", turns="0")
        self.assertIs(is_again(other=run_of("tell 1", turns=""), run=run), True)
        self.assertIs(are_alike(other=run_of("tell 1", turns=""), one=run), False)
        self.assertEqual(least_turns(run=run), [0])


class AlikeTest(unittest.TestCase):
    def both_ways(self, one, other, due):
        self.assertIs(are_alike(one, other), due)
        self.assertIs(are_alike(other, one), due)

    def test_alike(self):
        threads = ("store 1, 1; tell 1", "load a, 1; tell a", "tell 5")
        for others in ("01012", "00112", "20110", "20101"):
            self.both_ways(run_of(*threads, turns="01012"), run_of(*threads, turns=others), True)
        self.both_ways(run_of(*threads, turns=""), run_of(*threads, turns=""), True)

    def test_one_step_that_is_otherwise(self):
        threads = ("store 1, 1", "load a, 1")
        self.both_ways(run_of(*threads, turns="01"), run_of(*threads, turns="10"), False)

    def test_one_clock_that_is_otherwise(self):
        for threads in (("store 1, 0", "load a, 1"), ("store 1, 1", "store 1, 1"), ("send 0, 1", "send 0, 1")):
            self.both_ways(run_of(*threads, turns="01"), run_of(*threads, turns="10"), False)
        threads = ("lock 0; free 0", "lock 0; free 0")
        self.both_ways(run_of(*threads, turns="0011"), run_of(*threads, turns="1100"), False)

    def test_a_beginning(self):
        threads = ("tell 1; tell 2", "tell 3")
        self.both_ways(run_of(*threads, turns="010"), run_of(*threads, turns="01"), False)
        self.both_ways(run_of(*threads, turns="0"), run_of(*threads, turns=""), False)
        self.both_ways(run_of(*threads, turns="01"), run_of(*threads, turns="00"), False)

    def test_drawn_runs(self):
        seen = set()
        for seed, run, others in small_runs(90, 7):
            for other in others:
                due = kind_of(run) == kind_of(other)
                seen.add(due and run.turns() != other.turns())
                with self.subTest(seed=seed, turns=other.turns()):
                    self.both_ways(run, other, due)
        self.assertEqual(seen, {True, False})


class LeastTest(unittest.TestCase):
    def test_the_first_of_all_alike(self):
        moved = 0
        for seed, run, others in small_runs(90, 7):
            alike = [other.turns() for other in others if kind_of(other) == kind_of(run)]
            with self.subTest(seed=seed):
                told = least_turns(run)
                self.assertEqual(told, min(alike))
                self.assertEqual(least_turns(Run(run.program(), run.inputs(), told)), told)
                moved += told != run.turns()
        self.assertTrue(moved > 20)

    def test_told(self):
        self.assertEqual(least_turns(run_of("tell 1; tell 2", "tell 3; tell 4", turns="1010")), [0, 0, 1, 1])
        self.assertEqual(least_turns(run_of("load a, 1; tell 2", "store 1, 1; tell 4", turns="1100")), [1, 0, 0, 1])
        self.assertEqual(least_turns(run_of("tell 1; take a, 0", "send 0, 1; tell 4", turns="1100")), [0, 1, 0, 1])
        self.assertEqual(least_turns(run_of("tell 1; lock 0", "lock 0; free 0; tell 4", turns="11100")), [0, 1, 1, 0, 1])
        self.assertEqual(least_turns(run_of("load a, 1", "load a, 1", "load a, 1", turns="210")), [0, 1, 2])

    def test_no_turns_and_one_thread(self):
        self.assertEqual(least_turns(Run(program_of("go 0", "go 0"), [[], []], [])), [])
        self.assertEqual(least_turns(run_of("go 0", turns="000")), [0, 0, 0])

    def test_four_hundred_turns(self):
        self.assertEqual(least_turns(run_of("go 0", "go 0", turns="10" * 200)), [0] * 200 + [1] * 200)
        run = run_of("load a, 0; store 0, a; go 0", "load a, 0; store 0, a; go 0", turns="10" * 200)
        told = least_turns(run)
        self.assertTrue(told < run.turns())
        self.assertEqual(kind_of(Run(run.program(), run.inputs(), told)), kind_of(run))

    def test_the_list_is_the_askers(self):
        run = run_of("tell 1", "tell 2", turns="01")
        least_turns(run).clear()
        self.assertEqual((least_turns(run), run.turns()), ([0, 1], [0, 1]))


if __name__ == "__main__":
    unittest.main()
