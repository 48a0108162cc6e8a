"""Promise 36: recordings."""

import unittest

from replaytravel.bounds import BOUND
from replaytravel.kept import kept_times
from replaytravel.keptlooks import cost_of, do_keep
from replaytravel.pairs import pairs
from replaytravel.recordings import Recording
from replaytravel.runs import Run
from tests.helpers import anything, program_of, run_of
from tests.slow import long_run, pairs_of, some_run

THREADS = ("input a; load b, 0; store 0, b 1 +", "load b, 0; store 0, b 1 +")


def counting(turns="000110", inputs=((5,), ()), threads=THREADS):
    return run_of(*threads, turns=turns[:5], inputs=[list(worths) for worths in inputs])


class ToldTest(unittest.TestCase):
    def test_what_it_has(self):
        for seed in range(40):
            run = some_run(seed, most=12)
            for bound in (0, 1, 4, 7, 60, 999999999):
                recording = Recording(run, bound=bound)
                self.assertTrue(recording.run() == run)
                self.assertIs(type(recording.run()), Run)
                self.assertEqual((recording.bound(), recording.pairs()), (bound, pairs_of(run)))
                self.assertEqual([type(recording.pairs()), type(recording.kept())], [list, tuple])
                self.assertIs(do_keep(run, bound, recording.kept()), True)
                self.assertEqual(cost_of(run, recording.kept()), kept_times(run, bound)[0])

    def test_a_long_run(self):
        run = long_run(1)
        for bound in (0, 9, 60):
            recording = Recording(run, bound=bound)
            self.assertIs(do_keep(run, bound, recording.kept()), True)
            self.assertEqual(cost_of(run, recording.kept()), kept_times(run, bound)[0])
            self.assertEqual(recording.pairs(), pairs(run))

    def test_left_out_the_bound_is_sixty(self):
        self.assertEqual(BOUND, 60)
        self.assertEqual(Recording(counting()).bound(), 60)
        self.assertTrue(Recording(counting()) == Recording(counting(), bound=60))
        run = long_run(3)
        self.assertEqual(Recording(run).kept(), Recording(run, bound=60).kept())

    def test_by_name(self):
        self.assertTrue(Recording(bound=7, run=counting()) == Recording(counting(), bound=7))
        with self.assertRaises(TypeError):
            Recording(counting(), 7)

    def test_no_turns(self):
        recording = Recording(run_of("go 0", turns=""))
        self.assertEqual((len(recording.run()), recording.pairs(), recording.kept()), (0, [], (0,)))


class EqualTest(unittest.TestCase):
    def test_equal(self):
        self.assertIs(Recording(counting()) == Recording(counting()), True)
        self.assertIs(Recording(counting()) != Recording(counting()), False)

    def test_another_bound_program_inputs_turns(self):
        recording = Recording(counting())
        others = [
            Recording(counting(), bound=61),
            Recording(counting(), bound=59),
            Recording(counting(threads=(THREADS[0], THREADS[1] + "; tell 1"))),
            Recording(counting(threads=("input a; load b, 0; store 0, b 2 +", THREADS[1]))),
            Recording(counting(inputs=((6,), ()))),
            Recording(counting(inputs=((5,), (0,)))),
            Recording(counting(turns="00011")),
            Recording(counting(turns="00101")),
            Recording(counting(turns="0")),
        ]
        self.assertEqual([recording == other for other in others],
                         [False, False, False, False, False, False, True, False, False])
        # The same steps of nothing but threads in another order.
        one, other = run_of("tell 1", "tell 1", turns="01"), run_of("tell 1", "tell 1", turns="10")
        self.assertIs(Recording(one) == Recording(other), False)

    def test_to_other_things_never(self):
        recording = Recording(counting())
        for thing in [*anything(), recording.run(), recording.run().machine(0), object(), recording.kept()]:
            self.assertIs(recording == thing, False)
            self.assertIs(recording != thing, True)
            self.assertIs(thing == recording, False)


class OwnTest(unittest.TestCase):
    def test_lists_told_and_changed(self):
        recording = Recording(counting())
        before = repr((recording.pairs(), recording.kept(), recording.bound(), recording.run().turns()))
        self.assertTrue(recording.pairs())
        recording.pairs().clear()
        recording.run().turns().clear()
        recording.run().steps().clear()
        recording.run().inputs()[0].append(7)
        self.assertEqual(repr((recording.pairs(), recording.kept(), recording.bound(), recording.run().turns())), before)
        self.assertIsNot(recording.run(), recording.run())
        self.assertIsNot(recording.pairs(), recording.pairs())

    def test_what_is_handed_in_stays_and_is_not_kept(self):
        inputs, turns = [[5], []], [0, 0, 0, 1, 1]
        run = Run(program_of(*THREADS), inputs, turns)
        recording = Recording(run)
        self.assertIsNot(recording.run(), run)
        inputs[0].append(3)
        turns.clear()
        self.assertTrue(recording == Recording(counting()))
        self.assertTrue(run == counting())


if __name__ == "__main__":
    unittest.main()
