"""Promises 31 and 32: races and weighty pairs."""

import unittest

from replaytravel.allruns import outcome
from replaytravel.pairs import pairs
from replaytravel.races import races, weighty
from replaytravel.runs import Run
from tests.helpers import run_of
from tests.slow import WRITES, aheads_of, gone_on_slowly, kind_of, small_runs, some_run, turned_slowly

# Who loads 0 goes round without end.
LOOP = ("store 0, 1", "load a, 0; if a, 3; go 2")


def cell_pairs(run):
    """The pairs whose steps touch a cell."""
    steps, names = run.steps(), run.names()
    cells = [name for name, step in zip(names, steps) if step[3] is not None and step[3][0] == "cell"]
    return [pair for pair in pairs(run) if pair[0] in cells and pair[1] in cells]


def orders(run):
    """Of each lock the locks, of each line the sends and the takes, in order of names."""
    told = {}
    for name, step in zip(run.names(), run.steps()):
        if step[2] in ("lock", "send", "take"):
            told.setdefault(step[2:4], []).append(name)
    return told


class RacesTest(unittest.TestCase):
    def test_pairs_of_cells(self):
        for one, other in (("store 1, 1", "load a, 1"), ("load a, 1", "store 1, 1"), ("store 1, 1", "store 1, 1"),
                           ("swap a, 1, 1", "swap a, 1, 1"), ("swap a, 1, 1", "load a, 1")):
            self.assertEqual(races(run_of(one, other, turns="01")), [((0, 0), (1, 0))])

    def test_no_pair_of_locks_or_lines(self):
        for one, other, turns in (("lock 0; free 0", "lock 0", "001"), ("send 0, 1", "send 0, 1", "01"),
                                  ("send 0, 1; send 0, 1; take a, 0", "take a, 0", "0001")):
            run = run_of(one, other, turns=turns)
            self.assertEqual(len(pairs(run)), 1)
            self.assertEqual(races(run), [])

    def test_in_their_order(self):
        run = run_of("store 2, 1; lock 0; free 0; load a, 1", "store 1, 1; lock 0; load a, 2", turns="1000011")
        self.assertEqual(pairs(run), [((0, 1), (1, 1)), ((1, 0), (0, 3))])
        self.assertEqual(races(run), [((1, 0), (0, 3))])
        run = run_of("send 0, 1; store 2, 1; load a, 1", "store 1, 1; send 0, 1; load a, 2", turns="100011")
        self.assertEqual(pairs(run), [((0, 0), (1, 1)), ((0, 1), (1, 2)), ((1, 0), (0, 2))])
        self.assertEqual(races(run), [((0, 1), (1, 2)), ((1, 0), (0, 2))])

    def test_none(self):
        self.assertEqual(races(run_of("store 1, 1; load a, 1", "tell 1", turns="001")), [])
        self.assertEqual(races(run_of("lock 0; store 1, 1; free 0", "lock 0; load a, 1", turns="00011")), [])
        self.assertEqual(races(run_of("", turns="")), [])

    def test_drawn_runs(self):
        found = 0
        for seed in range(150):
            run = some_run(seed, most=12)
            found += len(races(run))
            with self.subTest(seed=seed):
                self.assertEqual(races(run), cell_pairs(run))
        self.assertTrue(found > 30)

    def test_where_there_are_none_ways_go_without_cells(self):
        for seed in range(200):
            run = some_run(seed, most=12)
            steps = run.steps()
            if races(run):
                continue
            # Without touches of cells only threads, locks and lines are left to go by.
            bare = [step[:3] + (None,) + step[4:] if step[3] and step[3][0] == "cell" else step for step in steps]
            aheads = aheads_of(bare)
            for other, step in enumerate(steps):
                for one in range(other):
                    if step[3] and step[3][0] == "cell" and steps[one][3] == step[3]:
                        if step[2] in WRITES or steps[one][2] in WRITES:
                            self.assertIn(one, aheads[other])

    def test_where_there_are_none_locks_and_lines_are_enough(self):
        many = 0
        for seed, run, others in small_runs(150, 8):
            for other in [] if races(run) else others:
                if len(other) == len(run) and orders(other) == orders(run):
                    many += 1
                    with self.subTest(seed=seed, turns=other.turns()):
                        self.assertEqual(kind_of(other), kind_of(run))
        self.assertTrue(many > 200)

    def test_the_list_is_the_askers(self):
        run = run_of("store 1, 1", "load a, 1", turns="01")
        races(run).clear()
        self.assertEqual(races(run=run), [((0, 0), (1, 0))])
        weighty(run).append(1)
        self.assertEqual(weighty(run=run), [])


class WeightyTest(unittest.TestCase):
    def slow(self, run):
        program, inputs = run.program(), run.inputs()
        due = outcome(Run(program, inputs, gone_on_slowly(program, inputs, run.turns())))
        return [pair for pair in pairs(run) if outcome(Run(program, inputs, turned_slowly(run, pair))) != due]

    def test_another_outcome(self):
        run = run_of("store 1, 1", "load a, 1; tell a", turns="011")
        self.assertEqual(weighty(run), [((0, 0), (1, 0))])
        # What is stored is what was there, or nobody tells what was loaded.
        self.assertEqual(weighty(run_of("store 1, 0", "load a, 1; tell a", turns="011")), [])
        self.assertEqual(weighty(run_of("store 1, 1", "load a, 1", turns="01")), [])
        self.assertEqual(weighty(run_of("store 1, 1", "store 1, 2", turns="01")), [((0, 0), (1, 0))])
        self.assertEqual(weighty(run_of("store 1, 2", "store 1, 2", turns="01")), [])

    def test_words_and_tellings_and_cells(self):
        self.assertEqual(weighty(run_of("store 1, 1", "load a, 1; check a", turns="011")), [((0, 0), (1, 0))])
        self.assertEqual(weighty(run_of("send 0, 1", "send 0, 2", "take a, 0; tell a", turns="0122")), [((0, 0), (1, 0))])
        self.assertEqual(weighty(run_of("lock 0; store 1, 1; free 0", "lock 0; store 1, 2; free 0", turns="000111")),
                         [((0, 0), (1, 0))])

    def test_in_the_pairs_order(self):
        run = run_of("store 1, 1; store 2, 0; store 3, 1", "load a, 1; tell a; load b, 2; tell b; load c, 3; tell c",
                     turns="000111111")
        self.assertEqual(pairs(run), [((0, 0), (1, 0)), ((0, 1), (1, 2)), ((0, 2), (1, 4))])
        self.assertEqual(weighty(run), [((0, 0), (1, 0)), ((0, 2), (1, 4))])

    def test_of_runs_that_are_not_over(self):
        run = run_of("store 1, 1; tell 4", "load a, 1; tell a", turns="01")
        self.assertEqual(weighty(run), [((0, 0), (1, 0))])
        # Gone on, both come to the same cells.
        run = run_of("store 1, 1; store 1, 3", "store 1, 2", turns="01")
        self.assertEqual(weighty(run), [])
        self.assertEqual(weighty(run_of("store 1, 1; store 1, 3", "store 1, 2", turns="")), [])

    def test_at_most_four_hundred_turns(self):
        self.assertEqual(weighty(run_of(*LOOP, turns="011")), [((0, 0), (1, 0))])
        # Cut at 400 turns in all: gone on thread 0 counts to 397, turned about to 397 as well, or one less.
        run = run_of("load a, 0; set b, b 1 +; store 2, b; go 1", "store 0, 1", turns="01")
        self.assertEqual(weighty(run), self.slow(run))
        run = run_of("store 0, 1; go 1", "load a, 0; tell a; go 2", turns="011" + "0" * 397)
        self.assertEqual(weighty(run), [((0, 0), (1, 0))])

    def test_drawn_runs(self):
        found = {True: 0, False: 0}
        for seed in range(150):
            run = some_run(seed, most=(4, 8, 100)[seed % 3])
            due = self.slow(run)
            for pair in pairs(run):
                found[pair in due] += 1
            with self.subTest(seed=seed):
                self.assertEqual(weighty(run), due)
        self.assertTrue(min(found.values()) > 10)

    def test_four_hundred_turns(self):
        threads = ["load a, 0; store 0, a 1 +; lock 0; free 0; go 0"] * 2
        run = run_of(*threads, turns="0000011111" * 40)
        self.assertEqual(weighty(run)[:2], self.slow_first(run, 2))

    def slow_first(self, run, many):
        program, inputs = run.program(), run.inputs()
        found = []
        for pair in pairs(run):
            if len(found) < many and outcome(Run(program, inputs, turned_slowly(run, pair))) != outcome(run):
                found.append(pair)
        return found


if __name__ == "__main__":
    unittest.main()
