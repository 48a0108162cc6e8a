"""Promises 27 and 28: all runs by their least turns, and the paper that shows that these are all."""

import functools
import unittest

from replaytravel.allruns import all_runs, is_runs_paper, runs_paper
from replaytravel.bounds import MOST_TURNS
from replaytravel.errors import TooLong, TooMany
from replaytravel.runs import Run
from tests.helpers import program_of
from tests.slow import all_turns, kind_of, some_program

COUNT = program_of("load a, 0; store 0, a 1 +", "load a, 0; store 0, a 1 +")
NONE = [[], []]
# So many least turns that there are more than 2,000.
MANY = program_of(*["load a, 0; store 0, a 1 +; load a, 0; store 0, a 1 +"] * 2, "load a, 0; store 0, a")


def least_slowly(program, inputs):
    """All least turns, gone through by kinds; None where there are too many turns."""
    turns = all_turns(program, inputs)
    if turns is None:
        return None
    kinds = {}
    for row in sorted(turns):
        kinds.setdefault(kind_of(Run(program, inputs, row)), row)
    return sorted(kinds.values())


@functools.cache
def small_programs():
    """Drawn programs with their inputs and all their least turns."""
    found = []
    for seed in range(120):
        program = some_program(seed)
        inputs = [[1] for _ in program]
        due = least_slowly(program, inputs)
        if due is not None:
            found.append((seed, program, inputs, due))
    return found


def tells(*lengths):
    """A program of threads that have nothing to do with one another, of so many steps each.

    Its least turns are some of each thread, one thread behind the other.
    """
    return program_of(*["; ".join(["tell 1"] * many) for many in lengths])


def steps_long(many):
    """A program of one thread that does so many steps, an even number from 4 on."""
    return program_of(f"set a, a 1 +; if a {many // 2 - 1} <, 0; set a, 0; tell a")


class AllRunsTest(unittest.TestCase):
    def test_beside_all_turns_that_can_be_done(self):
        many = 0
        for seed, program, inputs, due in small_programs():
            with self.subTest(seed=seed):
                self.assertEqual(runs_paper(program, inputs), due)
                self.assertEqual(all_runs(program, inputs), [row for row in due if Run(program, inputs, row).is_over()])
                self.assertIs(is_runs_paper(program, inputs, due), True)
            many += len(due) > 12
        self.assertTrue(many > 20)

    def test_told(self):
        self.assertEqual(all_runs(COUNT, NONE), [[0, 0, 1, 1], [0, 1, 0, 1], [0, 1, 1, 0], [1, 1, 0, 0]])
        self.assertEqual(runs_paper(COUNT, NONE), [
            [], [0], [0, 0], [0, 0, 1], [0, 0, 1, 1], [0, 1], [0, 1, 0], [0, 1, 0, 1], [0, 1, 1], [0, 1, 1, 0], [1],
            [1, 1], [1, 1, 0], [1, 1, 0, 0]])

    def test_stuck_ones_are_over_too(self):
        locks = program_of("lock 0; lock 1", "lock 1; lock 0")
        self.assertEqual(all_runs(locks, NONE), [[0, 0], [0, 1], [1, 1]])
        self.assertEqual(runs_paper(locks, NONE), [[], [0], [0, 0], [0, 1], [1], [1, 1]])

    def test_threads_without_rows(self):
        for threads in (1, 2, 4):
            program, inputs = program_of(*[""] * threads), [[]] * threads
            self.assertEqual(all_runs(program, inputs), [[]])
            self.assertEqual(runs_paper(program, inputs), [[]])
            self.assertIs(is_runs_paper(program, inputs, [[]]), True)

    def test_inputs_count(self):
        program = program_of("input a; if a, 3; store 0, 1", "load b, 0")
        self.assertEqual(len(all_runs(program, [[0], []])), 2)
        self.assertEqual(len(all_runs(program, [[1], []])), 1)

    def test_the_lists_are_the_askers(self):
        for told in (all_runs, runs_paper):
            before = repr(told(COUNT, NONE))
            rows = told(COUNT, NONE)
            rows[1].append(9)
            rows.clear()
            self.assertEqual(repr(told(COUNT, NONE)), before)

    def test_what_is_handed_in_stays(self):
        inputs, paper = [[1], [2]], [[1], [], [0]]
        all_runs(COUNT, inputs)
        runs_paper(COUNT, inputs)
        is_runs_paper(COUNT, inputs, paper)
        self.assertEqual((inputs, paper), ([[1], [2]], [[1], [], [0]]))

    def test_by_name(self):
        self.assertEqual(len(all_runs(most=20, inputs=NONE, program=COUNT)), 4)
        self.assertEqual(len(runs_paper(most=20, inputs=NONE, program=COUNT)), 14)
        self.assertIs(is_runs_paper(paper=[], inputs=NONE, program=COUNT), False)


class RefusedTest(unittest.TestCase):
    def too_many(self, program, inputs, **more):
        for told in (all_runs, runs_paper):
            with self.assertRaises(TooMany) as caught:
                told(program, inputs, **more)
            self.assertIs(type(caught.exception), TooMany)
            self.assertEqual(caught.exception.most, more.get("most", 2000))

    def test_too_many(self):
        self.assertEqual(len(runs_paper(COUNT, NONE, most=14)), 14)
        self.assertEqual(len(all_runs(COUNT, NONE, most=14)), 4)
        for most in (13, 5, 1, 0):
            self.too_many(COUNT, NONE, most=most)
        self.too_many(program_of(""), [[]], most=0)
        self.assertEqual(runs_paper(program_of(""), [[]], most=1), [[]])

    def test_left_out_it_is_two_thousand(self):
        self.assertEqual(MOST_TURNS, 2000)
        inputs = [[], [], []]
        many = len(runs_paper(MANY, inputs, most=100000))
        self.assertTrue(many > 2000)
        self.too_many(MANY, inputs)
        self.too_many(MANY, inputs, most=many - 1)
        self.assertEqual(len(runs_paper(MANY, inputs, most=many)), many)

    def test_just_as_many(self):
        self.assertEqual(len(runs_paper(tells(9, 9, 19), [[]] * 3)), 10 * 10 * 20)
        self.assertEqual(all_runs(tells(9, 9, 19), [[]] * 3), [[0] * 9 + [1] * 9 + [2] * 19])
        self.too_many(tells(2, 22, 28), [[]] * 3)
        self.assertEqual(len(runs_paper(tells(2, 22, 28), [[]] * 3, most=2001)), 3 * 23 * 29)

    def test_most_is_by_name_alone(self):
        for told in (all_runs, runs_paper):
            with self.assertRaises(TypeError):
                told(COUNT, NONE, 100)

    def too_long(self, program, inputs, **more):
        for told in (all_runs, runs_paper):
            with self.assertRaises(TooLong) as caught:
                told(program, inputs, **more)
            self.assertIs(type(caught.exception), TooLong)
            self.assertEqual(caught.exception.limit, 60)

    def test_too_long(self):
        self.assertEqual(all_runs(steps_long(60), [[]]), [[0] * 60])
        self.assertEqual(len(runs_paper(steps_long(60), [[]])), 61)
        self.assertEqual(len(runs_paper(steps_long(60), [[]], most=61)), 61)
        self.too_long(steps_long(62), [[]])
        self.too_long(tells(39, 22), NONE)
        self.assertEqual(all_runs(tells(39, 21), NONE), [[0] * 39 + [1] * 21])

    def test_loops_without_end(self):
        self.too_long(program_of("go 0"), [[]])
        for told in (all_runs, runs_paper):
            with self.assertRaises((TooLong, TooMany)):
                told(program_of("go 0", "go 0"), NONE)


class PaperTest(unittest.TestCase):
    def test_in_any_order(self):
        for seed, program, inputs, due in small_programs():
            with self.subTest(seed=seed):
                self.assertIs(is_runs_paper(program, inputs, due[::-1]), True)
                self.assertIs(is_runs_paper(program, inputs, due[1::2] + due[::2]), True)

    def test_a_row_left_out_or_twice(self):
        for seed, program, inputs, due in small_programs():
            for at in range(len(due)):
                with self.subTest(seed=seed, at=at):
                    self.assertIs(is_runs_paper(program, inputs, due[:at] + due[at + 1:]), False)
                    self.assertIs(is_runs_paper(program, inputs, due + [due[at]]), False)

    def test_a_row_changed(self):
        paper = runs_paper(COUNT, NONE)
        for at, row in enumerate(paper):
            changed = [row + [0], row + [1], row[:-1] if row else [0]]
            changed += [row[:k] + [row[k + 1], row[k]] + row[k + 2:] for k in range(len(row) - 1)]
            for other in changed:
                with self.subTest(row=row, other=other):
                    self.assertIs(is_runs_paper(COUNT, NONE, paper[:at] + [other] + paper[at + 1:]), other == row)

    def test_rows_that_are_none(self):
        paper = runs_paper(COUNT, NONE)
        # Can't be done; no thread; aren't least.
        for row in ([0, 0, 0], [0, 0, 1, 1, 0], [0, -1], [-1], [2], [0, 2], [10 ** 30], [1, 0], [1, 0, 1], [0] * 61, [0] * 401):
            with self.subTest(row=row[:9]):
                self.assertIs(is_runs_paper(COUNT, NONE, paper + [row]), False)
                self.assertIs(is_runs_paper(COUNT, NONE, [row] + paper), False)
                self.assertIs(is_runs_paper(COUNT, NONE, [[], row]), False)

    def test_turns_that_are_not_least_in_place_of_those_that_are(self):
        program = program_of("tell 1", "tell 2")
        self.assertIs(is_runs_paper(program, NONE, [[], [0], [0, 1], [1]]), True)
        self.assertIs(is_runs_paper(program, NONE, [[], [0], [1], [1, 0]]), False)
        self.assertIs(is_runs_paper(program, NONE, [[], [0], [0, 1], [1], [1, 0]]), False)

    def test_without_the_turns_of_none(self):
        paper = runs_paper(COUNT, NONE)
        self.assertIs(is_runs_paper(COUNT, NONE, paper[1:]), False)
        for row in ([1, 0], [2], [-1], [0, 0, 0]):
            self.assertIs(is_runs_paper(COUNT, NONE, paper[1:] + [row]), False)
        self.assertIs(is_runs_paper(COUNT, NONE, []), False)
        self.assertIs(is_runs_paper(program_of(""), [[]], []), False)
        self.assertIs(is_runs_paper(program_of(""), [[]], [[], []]), False)
        self.assertIs(is_runs_paper(COUNT, NONE, all_runs(COUNT, NONE)), False)

    def test_another_programs_paper(self):
        other = program_of("load a, 0; store 0, a 1 +", "load a, 1; store 1, a 1 +")
        self.assertIs(is_runs_paper(COUNT, NONE, runs_paper(other, NONE)), False)
        self.assertIs(is_runs_paper(other, NONE, runs_paper(COUNT, NONE)), False)
        self.assertIs(is_runs_paper(program_of("input a; if a, 3; tell 1"), [[0]], [[], [0], [0, 0], [0, 0, 0]]), True)
        self.assertIs(is_runs_paper(program_of("input a; if a, 3; tell 1"), [[1]], [[], [0], [0, 0], [0, 0, 0]]), False)

    def test_many_rows_and_long_ones_are_not_refused(self):
        paper = runs_paper(MANY, [[]] * 3, most=100000)
        self.assertIs(is_runs_paper(MANY, [[]] * 3, paper), True)
        self.assertIs(is_runs_paper(MANY, [[]] * 3, paper[:-1]), False)
        for many in (62, 100, 402):
            rows = [[0] * k for k in range(many + 1)]
            self.assertIs(is_runs_paper(steps_long(many), [[]], rows), True)
            self.assertIs(is_runs_paper(steps_long(many), [[]], rows[:-1]), False)
        self.assertIs(is_runs_paper(program_of("go 0"), [[]], [[0] * k for k in range(401)]), False)

    def test_each_run_that_is_over_is_alike_to_one(self):
        for seed, program, inputs, due in small_programs():
            told = [kind_of(Run(program, inputs, row)) for row in all_runs(program, inputs)]
            self.assertEqual(len(told), len(set(told)))
            for row in all_turns(program, inputs):
                run = Run(program, inputs, row)
                if run.is_over():
                    self.assertEqual(told.count(kind_of(run)), 1)


if __name__ == "__main__":
    unittest.main()
