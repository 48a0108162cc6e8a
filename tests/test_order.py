"""Promises 17 and 18: next ahead, ahead, clocks."""

import unittest

from replaytravel.order import clock, is_ahead, next_ahead
from replaytravel.runs import Run
from tests.helpers import program_of, run_of
from tests.slow import aheads_of, clocks_of, next_ones, some_run


def nexts(run):
    return [next_ahead(run, number) for number in range(len(run))]


class NextTest(unittest.TestCase):
    def test_loads(self):
        self.assertEqual(nexts(run_of("store 1, 5", "load a, 1; load b, 1", turns="011")), [[], [0], [0]])
        self.assertEqual(nexts(run_of("swap a, 1, 5", "load a, 1; load b, 1", turns="011")), [[], [0], [0]])
        self.assertEqual(nexts(run_of("store 1, 5; swap a, 1, 6", "load a, 1", turns="001")), [[], [0], [1]])
        self.assertEqual(nexts(run_of("load a, 1; load a, 1", "load a, 1", turns="010")), [[], [], []])

    def test_writes_behind_loads_since_the_last_write(self):
        for write in ("store 1, 7", "swap c, 1, 7"):
            run = run_of("load a, 1; store 1, 5; load b, 1", "load a, 1; load b, 1", write, turns="010012")
            self.assertEqual(nexts(run), [[], [], [0, 1], [2], [2], [2, 3, 4]])

    def test_a_write_without_a_write_ahead(self):
        for write in ("store 1, 7", "swap c, 1, 7"):
            run = run_of("load a, 1", "load a, 1", write, turns="102")
            self.assertEqual(nexts(run), [[], [], [0, 1]])

    def test_a_swap_is_a_write_and_no_load(self):
        run = run_of("load a, 1; swap a, 1, 5; swap a, 1, 6; store 1, 7; load a, 1", turns="00000")
        self.assertEqual(nexts(run), [[], [0], [1], [2], [3]])

    def test_the_first_touch(self):
        for row in ("load a, 1", "store 1, 2", "swap a, 1, 2", "lock 1", "send 1, 2"):
            self.assertEqual(nexts(run_of(row, turns="0")), [[]])

    def test_locks(self):
        run = run_of("lock 0; free 0; lock 0", "lock 0; free 0", turns="00110")
        self.assertEqual(nexts(run), [[], [], [0], [], [2]])

    def test_sends_and_takes(self):
        run = run_of("send 0, 1; send 0, 2; send 0, 3", "send 0, 4; take a, 0", "take a, 0; take b, 0", turns="0122001")
        self.assertEqual(nexts(run), [[], [0], [], [2], [1], [4], [3]])

    def test_falls_have_none(self):
        run = run_of("store 0, 1; store 64, 1", "store 0, 1; check 0", "lock 0; free 1", "input a", turns="0011223")
        self.assertEqual([step[2] for step in run.steps()][1::2], ["falls", "falls", "falls"])
        self.assertEqual(nexts(run), [[], [], [0], [], [], [], []])

    def test_a_fallen_free_is_no_touch(self):
        run = run_of("lock 0; free 0", "free 0", "lock 0", turns="0102")
        self.assertEqual([step[2] for step in run.steps()], ["lock", "falls", "free", "lock"])
        self.assertEqual(nexts(run), [[], [], [], [0]])

    def test_rows_that_touch_nothing(self):
        run = run_of("set a, 1; input b; tell a; check a; if a, 5; go 6", "set a, 1", turns="0100000", inputs=[[4], []])
        self.assertEqual(nexts(run), [[]] * 7)

    def test_other_places(self):
        run = run_of("store 0, 1; lock 0; send 0, 1; send 1, 1", "load a, 1; store 2, 1; lock 1; take a, 0; take a, 1",
                     turns="010101011")
        self.assertEqual(nexts(run), [[]] * 9)
        # Numbers alone are no places: cell 0, lock 0 and line 0 are three.
        run = run_of("store 0, 1; lock 0; free 0; send 0, 1; take a, 0; load a, 0", turns="000000")
        self.assertEqual(nexts(run), [[], [], [], [], [], [0]])

    def test_the_list_is_the_askers(self):
        run = run_of("load a, 1", "load a, 1", "store 1, 1", turns="012")
        told = next_ahead(run, 2)
        self.assertIs(type(told), list)
        told.append(7)
        told.reverse()
        self.assertEqual(next_ahead(run, 2), [0, 1])
        self.assertEqual((clock(run, 2), is_ahead(run, 0, 2)), ((1, 1, 1), True))

    def test_drawn_runs(self):
        for seed in range(150):
            run = some_run(seed, most=14)
            with self.subTest(seed=seed):
                self.assertEqual(nexts(run), [next_ones(run.steps(), number) for number in range(len(run))])

    def test_by_name(self):
        run = run_of("store 1, 1", "load a, 1", turns="01")
        self.assertEqual(next_ahead(number=1, run=run), [0])
        self.assertEqual(clock(number=1, run=run), (1, 1))
        self.assertIs(is_ahead(other=1, one=0, run=run), True)


class AheadTest(unittest.TestCase):
    def ahead(self, run):
        """All that is ahead of something, as two numbers each."""
        numbers = range(len(run))
        told = {(one, other): is_ahead(run, one, other) for one in numbers for other in numbers}
        self.assertTrue(all(type(truth) is bool for truth in told.values()))
        return [both for both in sorted(told) if told[both]]

    def test_own_order(self):
        run = run_of("set a, 1; set a, 2; set a, 3", turns="000")
        self.assertEqual(self.ahead(run), [(0, 1), (0, 2), (1, 2)])
        self.assertEqual([clock(run, number) for number in range(3)], [(1,), (2,), (3,)])

    def test_next_ahead(self):
        run = run_of("store 1, 5; set a, 1", "load a, 1", turns="001")
        self.assertEqual(self.ahead(run), [(0, 1), (0, 2)])
        self.assertEqual([clock(run, number) for number in range(3)], [(1, 0), (2, 0), (1, 1)])

    def test_a_free_ahead_of_the_next_lock(self):
        run = run_of("lock 0; free 0", "lock 0; free 0", "lock 0", turns="00112")
        self.assertEqual([clock(run, number) for number in range(5)],
                         [(1, 0, 0), (2, 0, 0), (2, 1, 0), (2, 2, 0), (2, 2, 1)])
        self.assertTrue(is_ahead(run, 1, 4))

    def test_a_free_of_another_lock(self):
        run = run_of("lock 0; lock 1; free 0; free 1", "lock 0; free 0", "lock 1", turns="00011")
        self.assertEqual(clock(run, 3), (3, 1, 0))
        run = run_of("lock 0; lock 1; free 1; free 0", "lock 1", turns="0001")
        self.assertEqual(clock(run, 3), (3, 1))

    def test_a_free_that_nobody_locks_behind(self):
        run = run_of("lock 0; free 0", "set a, 1", turns="001")
        self.assertEqual(self.ahead(run), [(0, 1)])

    def test_sends_and_takes_by_their_counts(self):
        run = run_of("send 0, 1; send 0, 2; send 0, 3", "take a, 0; take a, 0", turns="00011")
        self.assertEqual([clock(run, number) for number in range(5)], [(1, 0), (2, 0), (3, 0), (1, 1), (2, 2)])
        run = run_of("send 0, 1", "send 0, 2", "take a, 0", "take a, 0", turns="1032")
        self.assertEqual([clock(run, number) for number in range(4)],
                         [(0, 1, 0, 0), (1, 1, 0, 0), (0, 1, 0, 1), (1, 1, 1, 1)])

    def test_lines_are_counted_apart(self):
        run = run_of("send 0, 1; send 1, 2", "take a, 1", "take a, 0", turns="0012")
        self.assertEqual([clock(run, number) for number in range(4)], [(1, 0, 0), (2, 0, 0), (2, 1, 0), (1, 0, 1)])

    def test_through_several(self):
        run = run_of("store 1, 1; send 0, 1", "take a, 0; lock 0; free 0", "lock 0; load a, 2", "set a, 1; set a, 2",
                     turns="300111223")
        self.assertEqual(clock(run, 7), (2, 3, 2, 0))
        self.assertTrue(is_ahead(run, 1, 7))
        self.assertFalse(is_ahead(run, 0, 7))
        self.assertEqual(clock(run, 8), (0, 0, 0, 2))

    def test_the_same_and_neither(self):
        run = run_of("set a, 1; store 1, 1", "set a, 1; load a, 2", turns="0101")
        for number in range(4):
            self.assertIs(is_ahead(run, number, number), False)
        self.assertEqual(self.ahead(run), [(0, 2), (1, 3)])

    def test_two_loads_are_not_ahead_of_each_other(self):
        run = run_of("load a, 1", "load a, 1", turns="01")
        self.assertEqual(self.ahead(run), [])

    def test_tuples_of_whole_numbers(self):
        for threads in (1, 2, 3, 4):
            run = Run(program_of(*["store 1, 1"] * threads), [[]] * threads, list(range(threads)))
            for number in range(threads):
                told = clock(run, number)
                self.assertEqual([type(told)] + [type(many) for many in told], [tuple] + [int] * threads)

    def test_drawn_runs(self):
        for seed in range(150):
            run = some_run(seed, most=14)
            steps, numbers = run.steps(), range(len(run))
            aheads = aheads_of(steps)
            with self.subTest(seed=seed):
                self.assertEqual([clock(run, number) for number in numbers], clocks_of(steps, len(run.program())))
                for other in numbers:
                    self.assertEqual({one for one in numbers if is_ahead(run, one, other)}, aheads[other])

    def test_four_hundred_turns(self):
        run = run_of("load a, 0; store 0, a 1 +; go 0", "load a, 0; store 0, a 1 +; go 0", turns="01" * 200)
        self.assertEqual([clock(run, number) for number in range(400)], clocks_of(run.steps(), 2))

    def test_the_run_stays(self):
        inputs, turns = [[1], []], [0, 1, 0]
        program = program_of("input a; store 1, a", "load a, 1")
        run = Run(program, inputs, turns)
        for number in range(3):
            next_ahead(run, number)
            clock(run, number)
            is_ahead(run, number, 0)
        self.assertEqual((inputs, turns), ([[1], []], [0, 1, 0]))
        self.assertTrue(run == Run(program, inputs, turns))


if __name__ == "__main__":
    unittest.main()
