"""Promise 24: replay; of promise 4, that a run's pairs are the run again and never stuck."""

import unittest

from replaytravel.errors import NoReplay
from replaytravel.pairs import pairs
from replaytravel.replay import replayed
from replaytravel.runs import Run
from tests.helpers import drawn, program_of, run_of
from tests.slow import kind_of, lengths_of, some_run

TWO = program_of("set a, 1; set a, 2; set a, 3", "set a, 1; set a, 2; set a, 3")
NONE = [[], []]
THREE = program_of(*["set a, 1; set a, 2; set a, 3"] * 3)


class ReplayedTest(unittest.TestCase):
    def test_a_runs_own_pairs_and_lengths(self):
        for seed in range(150):
            run = some_run(seed, most=14)
            told = pairs(run)
            for numbers in ((), [], [1], [2, 1], drawn(seed, 8), drawn(seed + 7, 60), tuple(drawn(seed + 9, 60)),
                            [number * 10 ** 25 + 1 for number in drawn(seed, 30)]):
                with self.subTest(seed=seed, many=len(numbers)):
                    again = replayed(run.program(), run.inputs(), told, lengths_of(run), numbers)
                    self.assertIs(type(again), Run)
                    self.assertEqual(kind_of(again), kind_of(run))

    def test_four_hundred_turns(self):
        threads = ["load a, 0; store 0, a 1 +; lock 0; free 0; go 0"] * 2
        run = run_of(*threads, turns="0000011111" * 40)
        for numbers in ((), drawn(3, 400)):
            again = replayed(run.program(), run.inputs(), pairs(run), [200, 200], numbers)
            self.assertEqual(kind_of(again), kind_of(run))

    def test_no_pairs(self):
        self.assertEqual(replayed(TWO, NONE, [], [3, 3]).turns(), [0, 0, 0, 1, 1, 1])
        self.assertEqual(replayed(TWO, NONE, [], [3, 3], [1, 1, 0, 1]).turns(), [1, 1, 0, 1, 0, 0])

    def test_numbers_choose_among_those_that_may_go(self):
        self.assertEqual(replayed(THREE, [[]] * 3, [], [1, 2, 1], [2, 1, 1, 5]).turns(), [2, 1, 1, 0])
        self.assertEqual(replayed(THREE, [[]] * 3, [], [1, 2, 1], [5, 3, 3, 8]).turns(), [2, 1, 1, 0])
        # Thread 0 has to await thread 2: the first of those that may go is 1.
        wanted = [((2, 0), (0, 0))]
        self.assertEqual(replayed(THREE, [[]] * 3, wanted, [1, 1, 1]).turns(), [1, 2, 0])
        self.assertEqual(replayed(THREE, [[]] * 3, wanted, [1, 1, 1], [1, 1]).turns(), [2, 1, 0])
        self.assertEqual(replayed(THREE, [[]] * 3, wanted, [1, 1, 1], [3, 2]).turns(), [2, 0, 1])

    def test_only_ready_ones_count(self):
        program = program_of("take a, 0", "set a, 1; send 0, 1", "lock 0; free 0", "lock 0; free 0")
        turns = replayed(program, [[]] * 4, [], [1, 2, 2, 2], [1, 0, 0, 1]).turns()
        self.assertEqual(turns, [2, 1, 1, 2, 0, 3, 3])

    def test_lengths_of_none_and_of_a_beginning(self):
        self.assertEqual(replayed(TWO, NONE, [], [0, 0]).turns(), [])
        self.assertEqual(replayed(TWO, NONE, [((9, 9), (0, 0))], [0, 0]).turns(), [])
        self.assertEqual(replayed(TWO, NONE, [], [2, 0], [7, 7]).turns(), [0, 0])
        self.assertEqual(replayed(TWO, NONE, [], [1, 2], [1]).turns(), [1, 0, 1])
        self.assertEqual(replayed(program_of(""), [[]], [], [0]).turns(), [])
        run = run_of("store 1, 1; tell 1", "load a, 1; tell a", turns="0101")
        self.assertEqual(replayed(run.program(), NONE, pairs(run), [1, 1], [1, 1]).turns(), [0, 1])

    def test_pairs_of_names_that_are_not_done(self):
        self.assertEqual(replayed(TWO, NONE, [((9, 9), (0, 3)), ((0, 0), (5, 5)), ((1, 0), (-1, 0))], [3, 3]).turns(),
                         [0, 0, 0, 1, 1, 1])

    def test_one_pair_twice_and_several_firsts(self):
        self.assertEqual(replayed(TWO, NONE, [((1, 1), (0, 0))] * 2, [1, 2]).turns(), [1, 1, 0])
        self.assertEqual(replayed(THREE, [[]] * 3, [((2, 0), (0, 0)), ((1, 0), (0, 0))], [1, 1, 1]).turns(), [1, 2, 0])

    def test_inputs_are_the_runs(self):
        run = replayed(program_of("input a; tell a"), [[5]], [], [2])
        self.assertEqual((run.program(), run.inputs()), (program_of("input a; tell a"), [[5]]))
        self.assertEqual(run.machine(2).told(0), [5])

    def test_by_name_and_by_place(self):
        due = replayed(TWO, NONE, [((1, 0), (0, 0))], [1, 2], [0, 1])
        self.assertEqual(due.turns(), [1, 1, 0])
        told = replayed(numbers=[0, 1], lengths=[1, 2], pairs=[((1, 0), (0, 0))], inputs=NONE, program=TWO)
        self.assertTrue(told == due)
        self.assertTrue(replayed(TWO, NONE, [((1, 0), (0, 0))], lengths=[1, 2], numbers=(0, 1)) == due)

    def test_what_is_handed_in_stays(self):
        inputs, told, lengths, numbers = [[1], []], [((1, 0), (0, 0))], [1, 1], [1, 1]
        run = replayed(program_of("input a", "tell 1"), inputs, told, lengths, numbers)
        self.assertEqual((inputs, told, lengths, numbers), ([[1], []], [((1, 0), (0, 0))], [1, 1], [1, 1]))
        inputs[0].clear()
        self.assertEqual(run.inputs(), [[1], []])


class RefusedTest(unittest.TestCase):
    def refused(self, program, wanted, lengths, stopped, numbers=()):
        with self.assertRaises(NoReplay) as caught:
            replayed(program, [[] for _ in program], wanted, lengths, numbers)
        self.assertIs(type(caught.exception), NoReplay)
        self.assertIs(type(caught.exception.stopped), list)
        self.assertEqual(caught.exception.stopped, stopped)

    def test_befores_the_other_way_about(self):
        both = [((0, 0), (1, 0)), ((1, 0), (0, 0))]
        self.refused(TWO, both, [1, 1], [(0, 0), (1, 0)])
        self.refused(TWO, [((0, 1), (1, 0)), ((1, 0), (0, 1))], [3, 3], [(0, 1), (1, 0)])
        self.refused(THREE, both, [1, 2, 2], [(0, 0), (1, 0)], [1, 1])

    def test_a_first_name_that_never_comes(self):
        for first in ((1, 1), (1, 3), (2, 0), (9, 9), (-1, 0), (-2, 0), (0, -1), (1, -1), (10 ** 30, 0)):
            self.refused(TWO, [(first, (0, 1))], [2, 1], [(0, 1)])

    def test_a_step_ahead_of_itself(self):
        self.refused(TWO, [((0, 1), (0, 1))], [3, 1], [(0, 1)])
        self.refused(TWO, [((0, 2), (0, 1))], [3, 1], [(0, 1)])

    def test_lengths_beyond_what_a_thread_has(self):
        self.refused(TWO, [], [4, 3], [(0, 3)])
        self.refused(TWO, [], [5, 9], [(0, 3), (1, 3)])
        self.refused(program_of(""), [], [1], [(0, 0)])
        self.refused(program_of("check 0; tell 1"), [], [2], [(0, 1)])

    def test_threads_that_wait(self):
        self.refused(program_of("take a, 0", "tell 1"), [], [1, 1], [(0, 0)])
        self.refused(program_of("lock 0; free 0", "lock 0; free 0"), [], [1, 1], [(1, 0)])
        locks = program_of("lock 0; lock 1", "lock 1; lock 0")
        self.refused(locks, [((0, 0), (1, 0)), ((1, 0), (0, 1))], [2, 2], [(0, 1), (1, 1)])

    def test_all_that_have_steps_left(self):
        program = program_of("take a, 0", "tell 1", "tell 1; tell 2", "tell 1")
        self.refused(program, [((3, 1), (2, 1))], [1, 3, 2, 1], [(0, 0), (1, 1), (2, 1)])

    def test_the_list_is_the_askers(self):
        for _ in range(2):
            with self.assertRaises(NoReplay) as caught:
                replayed(TWO, NONE, [], [4, 3])
            self.assertEqual(caught.exception.stopped, [(0, 3)])
            caught.exception.stopped.clear()

    def test_what_is_handed_in_stays(self):
        inputs, told, lengths, numbers = [[], []], [((1, 5), (0, 0))], [1, 1], [3]
        with self.assertRaises(NoReplay):
            replayed(TWO, inputs, told, lengths, numbers)
        self.assertEqual((inputs, told, lengths, numbers), ([[], []], [((1, 5), (0, 0))], [1, 1], [3]))


if __name__ == "__main__":
    unittest.main()
