"""Promise 20: pairs."""

import unittest

from replaytravel.pairs import pairs
from replaytravel.runs import Run
from tests.helpers import program_of, run_of
from tests.slow import pairs_of, some_run


class PairsTest(unittest.TestCase):
    def test_one_of_each_kind(self):
        self.assertEqual(pairs(run_of("store 1, 1", "load a, 1", turns="01")), [((0, 0), (1, 0))])
        self.assertEqual(pairs(run_of("load a, 1", "store 1, 1", turns="01")), [((0, 0), (1, 0))])
        self.assertEqual(pairs(run_of("store 1, 1", "store 1, 1", turns="10")), [((1, 0), (0, 0))])
        self.assertEqual(pairs(run_of("swap a, 1, 1", "swap a, 1, 1", turns="01")), [((0, 0), (1, 0))])
        self.assertEqual(pairs(run_of("lock 0; free 0", "lock 0", turns="001")), [((0, 0), (1, 0))])
        self.assertEqual(pairs(run_of("send 0, 1", "send 0, 1", turns="01")), [((0, 0), (1, 0))])
        self.assertEqual(pairs(run_of("send 0, 1; send 0, 1", "take a, 0", "take a, 0", turns="0012")),
                         [((1, 0), (2, 0))])

    def test_none_of_what_needs_none(self):
        self.assertEqual(pairs(run_of("load a, 1", "load a, 1", turns="01")), [])
        self.assertEqual(pairs(run_of("store 1, 1", "load a, 2", turns="01")), [])
        # A take waits for its send whatever is kept.
        self.assertEqual(pairs(run_of("send 0, 1", "take a, 0", turns="01")), [])
        self.assertEqual(pairs(run_of("set a, 1", "set a, 1", turns="01")), [])

    def test_brought_by_the_own_step_just_ahead(self):
        # The store is ahead of the second load by the first one, or by the take.
        self.assertEqual(pairs(run_of("store 1, 1", "load a, 1; load b, 1", turns="011")), [((0, 0), (1, 0))])
        self.assertEqual(pairs(run_of("store 1, 1; send 0, 1", "take a, 0; load a, 1", turns="0011")), [])
        self.assertEqual(pairs(run_of("lock 0; store 1, 1; free 0", "lock 0; load a, 1", turns="00011")),
                         [((0, 0), (1, 0))])

    def test_brought_by_another_one_next_ahead(self):
        # Both the store and the load are next ahead of the last store, the store through the load.
        run = run_of("store 1, 1", "load a, 1", "store 1, 2", turns="012")
        self.assertEqual(pairs(run), [((0, 0), (1, 0)), ((1, 0), (2, 0))])

    def test_several_next_ahead_stay(self):
        run = run_of("load a, 1", "load a, 1", "store 1, 2", turns="012")
        self.assertEqual(pairs(run), [((0, 0), (2, 0)), ((1, 0), (2, 0))])
        run = run_of("load a, 1; load a, 1", "store 1, 2", turns="001")
        self.assertEqual(pairs(run), [((0, 1), (1, 0))])

    def test_sorted(self):
        run = run_of("store 2, 1; load a, 1", "store 1, 1; load a, 2", turns="1001")
        self.assertEqual(pairs(run), [((0, 0), (1, 1)), ((1, 0), (0, 1))])
        # By numbers, not as texts.
        run = run_of("store 1, 1; go 0", "load a, 1; go 0", turns="0011" * 15)
        self.assertEqual(pairs(run), sorted(pairs(run)))
        self.assertTrue(len(run) > 20 and ((0, 10), (1, 10)) in pairs(run))

    def test_tuples_of_two_names(self):
        told = pairs(run_of("store 1, 1", "load a, 1", turns="01"))
        self.assertIs(type(told), list)
        self.assertEqual([type(told[0]), type(told[0][0]), type(told[0][0][0])], [tuple, tuple, int])

    def test_one_thread_and_no_steps(self):
        run = run_of("store 1, 1; load a, 1; swap a, 1, 2; lock 0; free 0; lock 0; send 0, 1; take a, 0", turns="0" * 8)
        self.assertEqual(pairs(run), [])
        self.assertEqual(pairs(Run(program_of("go 0", "go 0"), [[], []], [])), [])
        self.assertEqual(pairs(Run(program_of(""), [[]], [])), [])

    def test_four_hundred_turns(self):
        threads = ["load a, 0; store 0, a 1 +; lock 0; free 0; go 0"] * 2
        run = run_of(*threads, turns="0011" * 2 + "0000011111" * 39 + "01")
        self.assertEqual(len(run), 400)
        self.assertEqual(pairs(run), pairs_of(run))
        run = run_of("load a, 0; go 0", "load a, 0; go 0", "load a, 0; go 0", "store 0, 1", turns="012" * 133 + "3")
        self.assertEqual(pairs(run), [((0, 132), (3, 0)), ((1, 132), (3, 0)), ((2, 132), (3, 0))])

    def test_drawn_runs(self):
        many = 0
        for seed in range(200):
            run = some_run(seed, most=16)
            with self.subTest(seed=seed):
                self.assertEqual(pairs(run), pairs_of(run))
            many += len(pairs(run))
        self.assertTrue(many > 100)

    def test_the_list_is_the_askers(self):
        run = run_of("store 1, 1", "load a, 1", turns="01")
        pairs(run).clear()
        self.assertEqual(pairs(run=run), [((0, 0), (1, 0))])
        self.assertEqual(run.names(), [(0, 0), (1, 0)])


if __name__ == "__main__":
    unittest.main()
