"""Promises 21 and 22: what turns keep, what a list of befores lacks."""

import unittest

from replaytravel.befores import broken, keeps, lacks
from replaytravel.errors import NotAhead
from replaytravel.pairs import pairs
from replaytravel.runs import Run
from tests.helpers import anything, drawn, program_of, refused_two, run_of
from tests.slow import aheads_of, is_run_again, lengths_of, small_runs, some_run

A, B, C = (0, 0), (1, 0), (2, 0)
# The loads of threads 1 and 2 come behind the store, the last store behind both.
RUN = run_of("store 1, 1; tell 1", "load a, 1", "load a, 1", "store 1, 2", turns="01230")
PAIRS = [(A, B), (A, C), (B, (3, 0)), (C, (3, 0))]


class KeepsTest(unittest.TestCase):
    def test_no_befores_and_no_turns(self):
        for turns in ([], [0], [1, 0, 1], [7, -1, 7]):
            self.assertIs(keeps([], turns), True)
        for befores in ([(A, B)], [(B, A), (A, B)], [(A, A)]):
            self.assertIs(keeps(befores, []), True)

    def test_in_order_or_not(self):
        self.assertIs(keeps([(A, B)], [0, 1]), True)
        self.assertIs(keeps([(A, B)], [0, 2, 0, 1]), True)
        self.assertIs(keeps([(A, B)], [1, 0]), False)
        self.assertIs(keeps([(A, B)], [1]), False)
        self.assertIs(keeps([((0, 1), B)], [0, 1, 0]), False)
        self.assertIs(keeps([((0, 1), B)], [0, 0, 1]), True)
        self.assertIs(keeps([(A, (1, 2))], [1, 1, 0, 1]), True)
        self.assertIs(keeps([(A, (1, 1))], [1, 1, 0, 1]), False)

    def test_the_second_is_not_done(self):
        self.assertIs(keeps([(A, B)], [0]), True)
        self.assertIs(keeps([(A, (1, 1))], [1]), True)
        self.assertIs(keeps([(A, B)], [2, 3, 2]), True)

    def test_the_first_is_never_done(self):
        self.assertIs(keeps([(A, B)], [2, 1]), False)
        self.assertIs(keeps([((0, 5), B)], [0, 0, 1]), False)
        self.assertIs(keeps([((9, 9), B)], [0, 0, 1]), False)

    def test_one_before_twice_and_several(self):
        self.assertIs(keeps([(A, B), (A, B)], [0, 1]), True)
        self.assertIs(keeps([(A, B), (A, B)], [1, 0]), False)
        self.assertIs(keeps([(A, B), (B, C)], [0, 1, 2]), True)
        self.assertIs(keeps([(A, B), (B, C)], [0, 2, 1]), False)
        self.assertIs(keeps([(A, B), (A, C)], [0, 2, 1]), True)
        self.assertIs(keeps([(B, C), (A, B)], [1, 0, 2]), False)

    def test_a_step_ahead_of_itself(self):
        self.assertIs(keeps([(A, A)], [0]), False)
        self.assertIs(keeps([(A, A)], [1]), True)

    def test_threads_that_can_not_go(self):
        self.assertIs(keeps([((7, 0), (-3, 1))], [-3, 7, -3]), True)
        self.assertIs(keeps([((7, 0), (-3, 1))], [-3, -3, 7]), False)
        self.assertIs(keeps([((-1, 0), A)], [0]), False)
        self.assertIs(keeps([(A, (1, 599))], [0] + [1] * 600), True)

    def test_what_is_handed_in_stays(self):
        befores, turns = [(A, B), (A, B)], [0, 1]
        self.assertIs(keeps(turns=turns, befores=befores), True)
        self.assertEqual((befores, turns), ([(A, B), (A, B)], [0, 1]))


class LacksTest(unittest.TestCase):
    def test_none_of_the_pairs(self):
        self.assertEqual(pairs(RUN), PAIRS)
        self.assertIsNone(lacks(RUN, PAIRS))
        self.assertIsNone(lacks(RUN, PAIRS[::-1]))
        self.assertIsNone(lacks(RUN, PAIRS + PAIRS))
        for seed in range(60):
            run = some_run(seed)
            self.assertIsNone(lacks(run, pairs(run)))

    def test_one_left_out(self):
        for pair in PAIRS:
            self.assertEqual(lacks(RUN, [other for other in PAIRS if other != pair]), pair)

    def test_the_first_of_several(self):
        self.assertEqual(lacks(RUN, []), PAIRS[0])
        self.assertEqual(lacks(RUN, PAIRS[:2]), PAIRS[2])
        self.assertEqual(lacks(RUN, [PAIRS[0], PAIRS[3]]), PAIRS[1])
        # First as the pairs are sorted, whatever the steps' order.
        run = run_of("store 1, 1; load a, 2", "store 2, 1; load a, 1", turns="1001")
        self.assertEqual(lacks(run, []), ((0, 0), (1, 1)))

    def test_through_another_first(self):
        run = run_of("lock 0; free 0", "lock 0", turns="001")
        self.assertEqual(pairs(run), [((0, 0), (1, 0))])
        self.assertIsNone(lacks(run, [((0, 1), (1, 0))]))
        run = run_of("send 0, 1", "take a, 0; tell a; send 0, 2", "take a, 0", turns="01112")
        self.assertEqual(pairs(run), [((1, 0), (2, 0))])
        self.assertIsNone(lacks(run, [((1, 1), (2, 0))]))
        self.assertIsNone(lacks(run, [((1, 2), (2, 0))]))
        self.assertEqual(lacks(run, [((0, 0), (2, 0))]), ((1, 0), (2, 0)))

    def test_a_first_that_is_ahead_brings_nothing(self):
        run = run_of("store 1, 1; load a, 1", "store 1, 2; load a, 1", "load a, 1", turns="00112")
        self.assertEqual(pairs(run), [((0, 1), (1, 0)), ((1, 0), (2, 0))])
        self.assertEqual(lacks(run, [((0, 1), (1, 0)), ((0, 1), (2, 0))]), ((1, 0), (2, 0)))
        self.assertEqual(lacks(run, [((0, 0), (1, 0)), ((1, 0), (2, 0))]), ((0, 1), (1, 0)))

    def test_of_another_second(self):
        run = run_of("store 1, 1", "load a, 1; tell a", turns="011")
        self.assertEqual(lacks(run, [((0, 0), (1, 1))]), ((0, 0), (1, 0)))
        self.assertEqual(lacks(run, [((1, 0), (1, 1))]), ((0, 0), (1, 0)))

    def test_no_steps(self):
        self.assertIsNone(lacks(Run(program_of("go 0"), [[]], []), []))

    def refused(self, run, befores, one, other):
        refused_two(self, NotAhead, lambda: lacks(run, befores), one, other)

    def test_no_before(self):
        lost = (3, 7)
        for one, other in ((B, A), (B, C), (A, A), (A, lost), (lost, A), (lost, lost), ((0, 1), B), (A, (4, 0)),
                           ((-1, 0), A), (A, (0, -1))):
            with self.subTest(one=one, other=other):
                self.refused(RUN, [(one, other)], one, other)
                self.refused(RUN, PAIRS + [(one, other)], one, other)
                self.refused(RUN, [(one, other)] + PAIRS, one, other)

    def test_truths(self):
        for one, other in (((0, False), B), ((False, 0), B), (A, (True, 0)), (A, (1, False)), (A, (0, True)), (A, True)):
            self.refused(RUN, PAIRS + [(one, other)], one, other)

    def test_anything(self):
        for thing in anything():
            with self.subTest(kind=type(thing).__name__):
                self.refused(RUN, [(thing, thing)], thing, thing)
                self.refused(RUN, [(thing, A)], thing, A)
                if not (thing == (0, 0) and type(thing[0]) is int is type(thing[1])):
                    self.refused(RUN, [(A, thing)], A, thing)
                    self.refused(RUN, [(thing, B)], thing, B)

    def test_the_first_of_several_no_befores(self):
        one, other = (5, 5), (6, 6)
        self.refused(RUN, [(A, B), (A, one), (other, A)], A, one)

    def test_refused_also_where_a_pair_lacks(self):
        self.refused(RUN, [(B, A)], B, A)
        self.refused(RUN, PAIRS[1:] + [(B, A)], B, A)

    def test_what_is_handed_in_stays(self):
        befores = [PAIRS[1], PAIRS[0]]
        self.assertEqual(lacks(befores=befores, run=RUN), PAIRS[2])
        self.assertEqual(befores, [PAIRS[1], PAIRS[0]])
        self.assertEqual(pairs(RUN), PAIRS)


class KeptRunsTest(unittest.TestCase):
    def test_lists_that_lack_none_are_the_run_again(self):
        seen = set()
        for seed, run, others in small_runs(150, 8):
            names, aheads = run.names(), aheads_of(run.steps())
            again = {tuple(other.turns()): is_run_again(run, other) for other in others}
            all_befores = [(names[k], names[number]) for number in range(len(run)) for k in sorted(aheads[number])]
            for many in (0, 2, 4, 7):
                numbers = drawn(seed * 5 + many, len(all_befores))
                befores = [before for number, before in zip(numbers, all_befores) if number % 8 < many]
                with self.subTest(seed=seed, many=many):
                    seen.add(self.is_run_alone(run, befores, again))
        self.assertEqual(seen, {True, False})

    def is_run_alone(self, run, befores, again):
        alone = all(again[turns] for turns in again if keeps(befores, list(turns)))
        lacked = lacks(run, befores)
        self.assertIs(lacked is None, alone)
        if lacked is not None:
            self.assertIs(keeps(befores, broken(run, lacked)), True)
            self.assertIs(again[tuple(broken(run, lacked))], False)
        return alone

    def test_pairs_are_kept_just_by_the_run_again(self):
        seen = set()
        for seed, run, others in small_runs(150, 8):
            for other in others:
                kept = keeps(pairs(run), other.turns())
                seen.add(kept)
                with self.subTest(seed=seed, turns=other.turns()):
                    self.assertIs(kept, is_run_again(run, other))
                    if kept and len(other) < len(run):
                        self.assertTrue(self.can_go_on(run, other))
        self.assertEqual(seen, {True, False})

    def can_go_on(self, run, other):
        lengths = lengths_of(run)
        for thread in other.machine(len(other)).ready():
            row = other.turns() + [thread]
            if row.count(thread) <= lengths[thread] and keeps(pairs(run), row):
                return True
        return False


if __name__ == "__main__":
    unittest.main()
