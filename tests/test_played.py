"""Promise 25: a run played to another program."""

import unittest

from replaytravel.played import otherwise
from replaytravel.runs import Run
from tests.helpers import program_of, run_of
from tests.slow import some_run


class OtherwiseTest(unittest.TestCase):
    def test_the_own_program(self):
        for seed in range(80):
            run = some_run(seed)
            self.assertIsNone(otherwise(run, run.program(), run.inputs()))
        run = Run(program_of("go 0", "go 0"), [[], []], [])
        self.assertIsNone(otherwise(run, run.program(), [[], []]))

    def test_another_program_that_goes_likewise(self):
        run = run_of("set a, 1; tell a", "tell 7", turns="001")
        self.assertIsNone(otherwise(run, program_of("set a, 0 1 +; tell 1", "tell 3 4 +"), [[], []]))
        self.assertIsNone(otherwise(run, run.program(), [[5], [6]]))

    def test_the_first_turn_with_another_step(self):
        run = run_of("set a, 1; tell a; tell 9", "tell 7", turns="0100")
        told = otherwise(run, program_of("set a, 1; tell 2; tell 8", "tell 7"), [[], []])
        self.assertEqual(told, (2, (0, 1, "tell", None, None, 1), (0, 1, "tell", None, None, 2)))
        self.assertIs(type(told), tuple)
        told = otherwise(run, program_of("set b, 1; tell b; tell 9", "tell 6"), [[], []])
        self.assertEqual(told, (1, (1, 0, "tell", None, None, 7), (1, 0, "tell", None, None, 6)))

    def test_each_item_of_a_step(self):
        run = run_of("swap a, 3, 5", turns="0")
        due = (0, 0, "swap", ("cell", 3), 0, 5)
        self.assertEqual(otherwise(run, program_of("swap a, 4, 5"), [[]]), (0, due, (0, 0, "swap", ("cell", 4), 0, 5)))
        self.assertEqual(otherwise(run, program_of("swap a, 3, 6"), [[]]), (0, due, (0, 0, "swap", ("cell", 3), 0, 6)))
        self.assertEqual(otherwise(run, program_of("store 3, 5"), [[]]), (0, due, (0, 0, "store", ("cell", 3), None, 5)))
        self.assertEqual(otherwise(run, program_of("swap a, 64, 5"), [[]]), (0, due, (0, 0, "falls", None, None, None)))
        run = run_of("go 2; tell 1; tell 1", turns="00")
        self.assertEqual(otherwise(run, program_of("go 1; tell 1; tell 1"), [[]]),
                         (1, (0, 2, "tell", None, None, 1), (0, 1, "tell", None, None, 1)))

    def test_a_thread_that_is_not_ready(self):
        run = run_of("tell 1; tell 2", "tell 3", turns="010")
        due = (0, 1, "tell", None, None, 2)
        self.assertEqual(otherwise(run, program_of("tell 1", "tell 3"), [[], []]), (2, due, "ended"))
        self.assertEqual(otherwise(run, program_of("tell 1; take a, 0", "tell 3"), [[], []]), (2, due, "waits"))
        run = run_of("if a, 1; tell 2", "tell 3; tell 4", turns="010")
        self.assertEqual(otherwise(run, program_of("if a, 1", "tell 3"), [[], []]),
                         (2, (0, 1, "tell", None, None, 2), "ended"))

    def test_a_thread_that_has_fallen(self):
        # A fall is a step itself, so that a thread goes otherwise there already, never behind.
        run = run_of("check 0", turns="0")
        self.assertIsNone(otherwise(run, program_of("free 0"), [[]]))
        run = run_of("tell 1; tell 2", turns="00")
        told = otherwise(run, program_of("check 0; tell 2"), [[]])
        self.assertEqual(told, (0, (0, 0, "tell", None, None, 1), (0, 0, "falls", None, None, None)))

    def test_other_words_behind(self):
        run = run_of("tell 1", "tell 3", turns="0")
        self.assertEqual(otherwise(run, program_of("tell 1; tell 2", "take a, 0"), [[], []]),
                         (1, ("ended", "ready"), ("ready", "waits")))
        self.assertEqual(otherwise(run, program_of("tell 1", ""), [[], []]),
                         (1, ("ended", "ready"), ("ended", "ended")))
        run = run_of("check 0", "take a, 0", turns="0")
        told = otherwise(run, program_of("check 0", ""), [[], []])
        self.assertEqual(told, (1, ("fallen", "waits"), ("fallen", "ended")))
        self.assertEqual([type(part) for part in told], [int, tuple, tuple])
        run = Run(program_of("go 0"), [[]], [])
        self.assertEqual(otherwise(run, program_of(""), [[]]), (0, ("ready",), ("ended",)))

    def test_other_inputs_alone(self):
        run = run_of("input a; if a, 0; tell a", turns="0000", inputs=[[1, 0]])
        due = (0, 0, "input", None, 0, None)
        self.assertEqual(otherwise(run, run.program(), [[1, 2]]), (2, due, (0, 0, "input", None, 2, None)))
        self.assertEqual(otherwise(run, run.program(), [[1]]), (2, due, (0, 0, "falls", None, None, None)))
        self.assertIsNone(otherwise(run, run.program(), [[1, 0, 5]]))

    def test_four_hundred_turns(self):
        run = run_of("set a, a 1 +; if a 200 <, 0; tell 1", turns="0" * 400)
        self.assertIsNone(otherwise(run, run.program(), [[]]))
        other = program_of("set a, a 1 +; if a 199 <, 0; tell 1")
        due, came = (0, 0, "set", None, 200, None), (0, 2, "tell", None, None, 1)
        self.assertEqual(otherwise(run, other, [[]]), (398, due, came))

    def test_what_is_handed_in_stays(self):
        inputs = [[1], [2]]
        run = run_of("input a", "input a", turns="01", inputs=inputs)
        others = [[1], [3]]
        told = otherwise(inputs=others, program=run.program(), run=run)
        self.assertEqual(told, (1, (1, 0, "input", None, 2, None), (1, 0, "input", None, 3, None)))
        self.assertEqual((others, run.inputs()), ([[1], [3]], [[1], [2]]))


if __name__ == "__main__":
    unittest.main()
