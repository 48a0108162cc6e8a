"""Promise 23: how a pair is broken, and whether turns break it."""

import unittest

from replaytravel.befores import breaks, broken, keeps
from replaytravel.errors import NoPair, NoThread, NotReady
from replaytravel.pairs import pairs
from replaytravel.runs import Run
from tests.helpers import anything, program_of, refused_two, run_of
from tests.slow import aheads_of, some_run


def broken_slowly(run, pair):
    a, b = [run.names().index(name) for name in pair]
    aheads = aheads_of(run.steps())
    return [run.turns()[k] for k in range(len(run)) if k != a and a not in aheads[k]] + [run.turns()[b]]


def all_runs_with_pairs():
    for seed in range(150):
        run = some_run(seed, most=12)
        for pair in pairs(run):
            yield seed, run, pair


class BrokenTest(unittest.TestCase):
    def test_all_but_the_first_and_what_it_is_ahead_of(self):
        run = run_of("set a, 1; store 1, 1; tell a", "tell 5; load a, 1; tell a", turns="010101")
        self.assertEqual(broken(run, ((0, 1), (1, 1))), [0, 1, 1])
        run = run_of("store 1, 1", "load a, 1; tell a", "tell 3; tell 4", turns="20112")
        self.assertEqual(broken(run, ((0, 0), (1, 0))), [2, 2, 1])
        run = run_of("lock 0; free 0", "lock 0", turns="001")
        self.assertEqual(broken(run, ((0, 0), (1, 0))), [1])

    def test_the_runs_order(self):
        run = run_of("tell 1; tell 2; store 1, 1", "tell 3; load a, 1", "tell 4; tell 5", turns="2012001")
        self.assertEqual(broken(run, ((0, 2), (1, 1))), [2, 0, 1, 2, 0, 1])

    def test_each_pair(self):
        many = 0
        for seed, run, pair in all_runs_with_pairs():
            many += 1
            with self.subTest(seed=seed, pair=pair):
                turns = broken(run, pair)
                self.assertEqual(turns, broken_slowly(run, pair))
                self.assertIs(breaks(run, pair, turns), True)
                names = Run(run.program(), run.inputs(), turns).names()
                self.assertTrue(pair[0] not in names and names[-1] == pair[1])
                self.assertTrue(keeps([other for other in pairs(run) if other != pair], turns))
        self.assertTrue(many > 50)

    def refused(self, run, thing, one, other):
        refused_two(self, NoPair, lambda: broken(run, thing), one, other)

    def test_two_names_that_are_no_pair(self):
        run = run_of("store 1, 1; tell 1", "load a, 1; load b, 1", turns="0110")
        one, other, own, late, lost = (0, 0), (1, 0), (0, 1), (1, 1), (7, 0)
        self.assertEqual(pairs(run), [(one, other)])
        for thing in ((other, one), (one, own), (one, late), (own, other), (one, one), (other, other), (one, lost),
                      (lost, other), ((0, -1), other)):
            with self.subTest(thing=thing):
                self.refused(run, thing, thing[0], thing[1])

    def test_truths(self):
        run = run_of("store 1, 1", "load a, 1", turns="01")
        for thing in (((False, 0), (1, 0)), ((0, False), (1, 0)), ((0, 0), (True, 0)), ((0, 0), (1, False)), (False, True)):
            self.refused(run, thing, thing[0], thing[1])

    def test_anything(self):
        run = run_of("store 1, 1", "load a, 1", turns="01")
        things = anything() + [[(0, 0), (1, 0)], ((0, 0),), ((0, 0), (1, 0), None), {(0, 0): (1, 0)}, ((0, 0), (1, 0), (1, 0))]
        for thing in things:
            with self.subTest(kind=type(thing).__name__):
                if isinstance(thing, tuple) and len(thing) == 2:
                    self.refused(run, thing, thing[0], thing[1])
                else:
                    self.refused(run, thing, thing, None)
                one, other = (0, 0), (1, 0)
                self.refused(run, (one, thing), one, thing)
                if thing != one:
                    self.refused(run, (thing, other), thing, other)

    def test_no_pairs_at_all(self):
        pair = ((0, 0), (1, 0))
        self.refused(Run(program_of("go 0", "go 0"), [[], []], []), pair, pair[0], pair[1])

    def test_the_list_is_the_askers(self):
        run = run_of("store 1, 1", "load a, 1", turns="01")
        broken(run, ((0, 0), (1, 0))).clear()
        self.assertEqual(broken(pair=((0, 0), (1, 0)), run=run), [1])
        self.assertEqual(run.turns(), [0, 1])


class BreaksTest(unittest.TestCase):
    def slow(self, run, pair, turns):
        try:
            other = Run(run.program(), run.inputs(), turns)
        except (NoThread, NotReady):
            return False
        kept = keeps([held for held in pairs(run) if held != pair], turns)
        return kept and pair[1] in other.names() and pair[0] not in other.names()

    def test_turns_left_out_put_in_exchanged(self):
        run = run_of("tell 1; store 1, 1", "tell 2; load a, 1", "store 2, 1", "load a, 2", turns="012301")
        pair = ((0, 1), (1, 1))
        turns = broken(run, pair)
        self.assertEqual(turns, [0, 1, 2, 3, 1])
        self.assertIs(breaks(run, pair, turns), True)
        self.assertIs(breaks(run, pair, [1, 1]), True)
        self.assertIs(breaks(run, pair, turns[:-1]), False)
        self.assertIs(breaks(run, pair, [0, 0, 1, 2, 3, 1]), False)
        self.assertIs(breaks(run, pair, [0, 1, 2, 3, 1, 0]), False)
        self.assertIs(breaks(run, pair, [0, 1, 3, 2, 1]), False)
        self.assertIs(breaks(run, pair, [0, 1, 3, 1]), False)
        self.assertIs(breaks(run, pair, [0, 1, 2, 2, 3, 1]), False)

    def test_each_change_of_brokens_turns(self):
        seen = []
        for seed, run, pair in all_runs_with_pairs():
            turns = broken(run, pair)
            rows = [turns[:at] + turns[at + 1:] for at in range(len(turns))]
            rows += [turns[:at] + [thread] + turns[at:] for at in range(len(turns) + 1) for thread in range(3)]
            rows += [turns[:at] + [turns[at + 1], turns[at]] + turns[at + 2:] for at in range(len(turns) - 1)]
            for row in rows:
                due = self.slow(run, pair, row)
                seen.append(due)
                with self.subTest(seed=seed, pair=pair, turns=row):
                    self.assertIs(breaks(run, pair, row), due)
            self.assertIs(breaks(run, pair, turns[:-1]), False)
        self.assertTrue(min(seen.count(True), seen.count(False)) > 100)

    def test_the_runs_own_turns_and_none(self):
        for seed, run, pair in all_runs_with_pairs():
            self.assertIs(breaks(run, pair, run.turns()), False)
            self.assertIs(breaks(run, pair, []), False)

    def test_turns_that_can_not_be_done(self):
        run = run_of("store 1, 1; lock 0", "load a, 1; lock 0", turns="010")
        pair = ((0, 0), (1, 0))
        self.assertIs(breaks(run, pair, [1]), True)
        self.assertIs(breaks(run, pair, [1, 1]), True)
        self.assertIs(breaks(run, pair, [1, 1, 1]), False)
        run = run_of("store 1, 1", "load a, 1; take a, 0", "check 0", turns="012")
        self.assertIs(breaks(run, pair, [1, 2]), True)
        self.assertIs(breaks(run, pair, [1, 1]), False)
        self.assertIs(breaks(run, pair, [1, 2, 2]), False)

    def test_threads_that_are_not_there(self):
        run = run_of("store 1, 1", "load a, 1; tell a", turns="011")
        pair = ((0, 0), (1, 0))
        for thread in (-1, -2, 2, 3, 4, 10 ** 30):
            self.assertIs(breaks(run, pair, [1, thread]), False)
            self.assertIs(breaks(run, pair, [thread, 1]), False)

    def test_more_turns_than_in_the_run(self):
        run = run_of("store 1, 1", "load a, 1; tell a; tell a", "tell 1", turns="01")
        pair = ((0, 0), (1, 0))
        for turns in ([1, 1], [1, 1, 1], [1, 1, 2, 1], [2, 1]):
            self.assertIs(breaks(run, pair, turns), True)

    def test_both_done_the_other_way_about(self):
        run = run_of("store 1, 1", "load a, 1", turns="01")
        self.assertIs(breaks(run, ((0, 0), (1, 0)), [1, 0]), False)

    def test_no_pair(self):
        run = run_of("store 1, 1", "load a, 1; load b, 1", turns="011")
        for one, other in (((1, 0), (0, 0)), ((0, 0), (1, 1)), ((False, 0), (1, 0))):
            refused_two(self, NoPair, lambda: breaks(run, (one, other), [1]), one, other)

    def test_four_hundred_turns(self):
        run = run_of("store 1, 1", "load a, 1; go 0", turns="0" + "1" * 399)
        self.assertIs(breaks(run, ((0, 0), (1, 0)), [1] * 400), True)
        self.assertIs(breaks(run, ((0, 0), (1, 0)), [1] * 399 + [0]), False)

    def test_what_is_handed_in_stays(self):
        run = run_of("store 1, 1", "load a, 1", turns="01")
        turns = [1]
        self.assertIs(breaks(turns=turns, pair=((0, 0), (1, 0)), run=run), True)
        self.assertEqual((turns, run.turns()), ([1], [0, 1]))


if __name__ == "__main__":
    unittest.main()
