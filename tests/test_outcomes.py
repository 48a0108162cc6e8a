"""Promise 29: outcomes."""

import unittest

from replaytravel.allruns import all_runs, outcome, outcomes
from replaytravel.errors import TooLong, TooMany
from replaytravel.runs import Run
from tests.helpers import machine_of, program_of, run_of
from tests.slow import all_turns, some_program, some_run

COUNT = program_of("load a, 0; store 0, a 1 +", "load a, 0; store 0, a 1 +")
NONE = [[], []]


def cells(**held):
    """All sixty-four cells, 0 but those told as c0=worth."""
    return tuple([held.get(f"c{number}", 0) for number in range(64)])


class OutcomeTest(unittest.TestCase):
    def test_words_tellings_cells(self):
        run = run_of("tell 1; store 3, 5; tell 2", "check 0", "take a, 0", "store 63, 7; go 0", turns="000133")
        due = (("ended", "fallen", "waits", "ready"), ((1, 2), (), (), ()), cells(c3=5, c63=7))
        self.assertEqual(outcome(run), due)

    def test_all_are_tuples(self):
        words, told, held = outcome(run_of("tell 1", "", turns="0"))
        self.assertEqual([type(words), type(told), type(told[0]), type(told[1]), type(held)], [tuple] * 5)
        self.assertEqual((len(words), len(told), len(held)), (2, 2, 64))
        self.assertIs(type(outcome(run_of("tell 1", turns=""))), tuple)

    def test_cut_runs(self):
        threads = ("tell 1; store 3, 5; tell 2", "set a, 1")
        self.assertEqual(outcome(run_of(*threads, turns="")), (("ready", "ready"), ((), ()), cells()))
        self.assertEqual(outcome(run_of(*threads, turns="00")), (("ready", "ready"), ((1,), ()), cells(c3=5)))
        self.assertEqual(outcome(run_of(*threads, turns="010")), (("ready", "ended"), ((1,), ()), cells(c3=5)))

    def test_drawn_runs(self):
        for seed in range(60):
            run = some_run(seed)
            machine, threads = run.machine(len(run)), range(len(run.program()))
            self.assertEqual(outcome(run), (
                tuple([machine.word(thread) for thread in threads]),
                tuple([tuple(machine.told(thread)) for thread in threads]),
                tuple([machine.cell(number) for number in range(64)])))

    def test_another_run_has_the_same(self):
        # Letters and lines are no part of it.
        self.assertEqual(outcome(run_of("set a, 1", turns="0")), outcome(run_of("send 0, 1", turns="0")))
        self.assertEqual(outcome(run=run_of("", turns=""))[0], (machine_of("").word(0),))


class OutcomesTest(unittest.TestCase):
    def test_each_with_its_first_run(self):
        ended = ("ended", "ended")
        self.assertEqual(outcomes(COUNT, NONE), [
            ((ended, ((), ()), cells(c0=2)), [0, 0, 1, 1]), ((ended, ((), ()), cells(c0=1)), [0, 1, 0, 1])])

    def test_in_the_order_of_their_runs(self):
        program = program_of("store 0, 1", "store 0, 2", "load a, 0; tell a")
        told = outcomes(program, [[]] * 3)
        self.assertEqual([turns for _, turns in told], sorted([turns for _, turns in told]))
        self.assertEqual([(row[1][2], row[2][0]) for row, _ in told],
                         [((2,), 2), ((1,), 2), ((1,), 1), ((2,), 1), ((0,), 2), ((0,), 1)])

    def test_beside_all_turns_that_can_be_done(self):
        seen = set()
        for seed in range(100):
            program = some_program(seed)
            inputs = [[1] for _ in program]
            turns = all_turns(program, inputs)
            if turns is None:
                continue
            told = outcomes(program, inputs)
            seen.add(len(told))
            with self.subTest(seed=seed):
                runs = [Run(program, inputs, row) for row in turns]
                self.assertEqual({row for row, _ in told}, {outcome(run) for run in runs if run.is_over()})
                first = {}
                for row in all_runs(program, inputs):
                    first.setdefault(outcome(Run(program, inputs, row)), row)
                self.assertEqual(told, list(first.items()))
        self.assertTrue(max(seen) > 2)

    def test_no_rows(self):
        self.assertEqual(outcomes(program_of(""), [[]]), [((("ended",), ((),), cells()), [])])

    def test_refused(self):
        self.assertEqual(len(outcomes(COUNT, NONE, most=14)), 2)
        for most in (13, 0):
            with self.assertRaises(TooMany) as caught:
                outcomes(COUNT, NONE, most=most)
            self.assertEqual(caught.exception.most, most)
        three = program_of(*["load a, 0; store 0, a 1 +; load a, 0; store 0, a"] * 3)
        with self.assertRaises(TooMany) as caught:
            outcomes(three, [[]] * 3)
        self.assertEqual(caught.exception.most, 2000)
        with self.assertRaises(TooLong) as caught:
            outcomes(program_of("go 0"), [[]])
        self.assertEqual(caught.exception.limit, 60)
        with self.assertRaises(TypeError):
            outcomes(COUNT, NONE, 100)

    def test_the_lists_are_the_askers(self):
        told = outcomes(most=50, inputs=NONE, program=COUNT)
        self.assertEqual([type(told), type(told[0]), type(told[0][0]), type(told[0][1])], [list, tuple, tuple, list])
        told[0][1].clear()
        told.clear()
        self.assertEqual([turns for _, turns in outcomes(COUNT, NONE)], [[0, 0, 1, 1], [0, 1, 0, 1]])

    def test_what_is_handed_in_stays(self):
        inputs = [[1], [2]]
        outcomes(COUNT, inputs)
        self.assertEqual(inputs, [[1], [2]])


if __name__ == "__main__":
    unittest.main()
