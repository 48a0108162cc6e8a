"""Promise 30: waited pairs, turned runs, and all runs that are come to by turning."""

import unittest

from replaytravel.alike import least_turns
from replaytravel.allruns import all_runs
from replaytravel.befores import broken
from replaytravel.errors import NoPair, TooLong, TooMany
from replaytravel.pairs import pairs
from replaytravel.runs import Run
from replaytravel.turned import reached, turned, waited
from replaytravel.turns import drawn_turns
from tests.helpers import anything, drawn, program_of, refused_two, run_of
from tests.slow import aheads_of, all_turns, some_program, some_run, turned_slowly

LOCKS = ("lock 0; tell 1", "lock 0; tell 2")
LINE = ("send 0, 5", "take a, 0; tell a", "take a, 0; tell a")
# Who loads 0 goes round without end.
LOOP = ("store 0, 1", "load a, 0; if a, 3; go 2")


def waited_slowly(run):
    steps, names, aheads = run.steps(), run.names(), aheads_of(run.steps())
    found = []
    for thread, kind, number, holder in run.machine(len(run)).waits():
        word = "lock" if kind == "lock" else "take"
        own = [k for k in range(len(run)) if steps[k][0] == thread]
        for a in [k for k in range(len(run)) if steps[k][2:4] == (word, (kind, number))][-1:]:
            if steps[a][0] != thread and not any(a in aheads[k] for k in own[-1:]):
                found.append((names[a], (thread, len(own))))
    return sorted(found)


class WaitedTest(unittest.TestCase):
    def test_a_lock(self):
        self.assertEqual(waited(run_of(*LOCKS, turns="00")), [((0, 0), (1, 0))])
        self.assertEqual(waited(run_of(*LOCKS, turns="11")), [((1, 0), (0, 0))])

    def test_a_line(self):
        self.assertEqual(waited(run_of(*LINE, turns="011")), [((1, 0), (2, 0))])
        self.assertEqual(waited(run_of(*LINE, turns="022")), [((2, 0), (1, 0))])
        self.assertEqual(waited(run_of("take a, 0", "", turns="")), [])

    def test_the_last_one_of_several(self):
        run = run_of("lock 0; free 0; tell 1", "lock 0; free 0; lock 0", "tell 1; lock 0", turns="0001112")
        self.assertEqual(waited(run), [((1, 2), (2, 1))])
        run = run_of("send 0, 1; send 0, 2", "take a, 0", "take a, 0", "take a, 0", turns="0012")
        self.assertEqual(waited(run), [((2, 0), (3, 0))])

    def test_sorted_and_several(self):
        self.assertEqual(waited(run_of(*["lock 0"] * 4, turns="2")), [((2, 0), (0, 0)), ((2, 0), (1, 0)), ((2, 0), (3, 0))])
        run = run_of("lock 1; lock 0", "lock 0; lock 1", turns="10")
        self.assertEqual(waited(run), [((0, 0), (1, 1)), ((1, 0), (0, 1))])

    def test_none_of_the_own_thread(self):
        self.assertEqual(waited(run_of("lock 0; lock 0", turns="0")), [])
        self.assertEqual(waited(run_of("send 0, 1; take a, 0; take a, 0", turns="00")), [])

    def test_none_that_is_ahead_of_the_last_step(self):
        run = run_of("take a, 0; lock 0", "lock 0; send 0, 1", turns="110")
        self.assertEqual(run.machine(3).waits(), [(0, "lock", 0, 1)])
        self.assertEqual(waited(run), [])
        run = run_of("send 0, 1; take a, 1; take a, 0", "take a, 0; send 1, 1", turns="0110")
        self.assertEqual(run.machine(4).waits(), [(0, "line", 0, None)])
        self.assertEqual(waited(run), [])
        # A step of its own that has nothing to do with the lock bars nothing.
        run = run_of("tell 1; lock 0", "lock 0; send 0, 1", turns="011")
        self.assertEqual(waited(run), [((1, 0), (0, 1))])

    def test_drawn_runs(self):
        many = 0
        for seed in range(200):
            run = some_run(seed, most=100)
            if run.is_over():
                many += len(waited(run))
                with self.subTest(seed=seed):
                    self.assertEqual(waited(run), waited_slowly(run))
        self.assertTrue(many > 20)

    def test_the_list_is_the_askers(self):
        run = run_of(*LOCKS, turns="00")
        waited(run).clear()
        self.assertEqual(waited(run=run), [((0, 0), (1, 0))])


class TurnedTest(unittest.TestCase):
    def test_about_a_pair(self):
        run = run_of("store 0, 1; tell 1", "load a, 0; tell a", turns="0101")
        came = turned(run, ((0, 0), (1, 0)))
        self.assertIs(type(came), Run)
        self.assertEqual(came.turns(), [1, 0, 0, 1])
        self.assertEqual((came.program(), came.inputs(), came.is_over()), (run.program(), [[], []], True))

    def test_about_a_waited_pair(self):
        self.assertEqual(turned(run_of(*LOCKS, turns="00"), ((0, 0), (1, 0))).turns(), [1, 1])
        self.assertEqual(turned(run_of(*LINE, turns="011"), ((1, 0), (2, 0))).turns(), [0, 2, 2])

    def test_of_a_run_that_is_not_over(self):
        run = run_of("store 0, 1; tell 1; tell 2", "load a, 0; tell a", "tell 3", turns="01")
        self.assertEqual(turned(run, ((0, 0), (1, 0))).turns(), [1, 0, 0, 0, 1, 2])

    def test_at_most_four_hundred(self):
        run = run_of(*LOOP, turns="011")
        came = turned(run, ((0, 0), (1, 0)))
        self.assertEqual(came.turns(), [1, 0] + [1] * 398)
        self.assertIs(came.is_over(), False)
        run = run_of("store 0, 1; go 1", "load a, 0; go 0", turns="0" * 199 + "1" * 201)
        self.assertEqual(turned(run, ((0, 0), (1, 0))).turns(), [1] + [0] * 399)
        run = run_of("load a, 0; go 0", "store 0, 1", turns="0" * 399 + "1")
        self.assertEqual(turned(run, ((0, 398), (1, 0))).turns(), [0] * 398 + [1, 0])

    def test_drawn_runs(self):
        kinds = {False: 0, True: 0}
        for seed in range(150):
            run = some_run(seed, most=(4, 8, 100)[seed % 3])
            for pair in pairs(run) + (waited(run) if run.is_over() else []):
                came = turned(run, pair)
                kinds[pair in pairs(run)] += 1
                with self.subTest(seed=seed, pair=pair):
                    self.assertEqual(came.turns(), turned_slowly(run, pair))
                    if pair in pairs(run):
                        begun = broken(run, pair)
                        self.assertEqual(came.turns()[:len(begun)], begun)
        self.assertTrue(min(kinds.values()) > 10)

    def refused(self, run, thing, one, other):
        refused_two(self, NoPair, lambda: turned(run, thing), one, other)

    def test_no_pair(self):
        run = run_of("store 0, 1; lock 0", "load a, 0; load b, 0; lock 0", turns="0110")
        self.assertEqual((pairs(run), waited(run)), ([((0, 0), (1, 0))], [((0, 1), (1, 2))]))
        for one, other in (((1, 0), (0, 0)), ((1, 2), (0, 1)), ((0, 0), (1, 1)), ((0, 0), (0, 0)), ((0, 0), (0, 1)),
                           ((0, 1), (1, 1)), ((0, 0), (1, 2)), ((0, 1), (1, 3)), ((7, 7), (1, 0))):
            self.refused(run, (one, other), one, other)
        for one, other in (((0, True), (1, 2)), ((False, 0), (1, 0)), ((0, 0), (True, 0)), ((0, 1), (True, 2))):
            self.refused(run, (one, other), one, other)

    def test_anything(self):
        run = run_of(*LOCKS, turns="00")
        for thing in anything() + [[(0, 0), (1, 0)], ((0, 0),), ((0, 0), (1, 0), None), {(0, 0): (1, 0)}]:
            with self.subTest(kind=type(thing).__name__):
                if isinstance(thing, tuple) and len(thing) == 2:
                    self.refused(run, thing, thing[0], thing[1])
                else:
                    self.refused(run, thing, thing, None)
                one = (0, 0)
                self.refused(run, (one, thing), one, thing)

    def test_no_waited_pair_of_a_run_that_is_not_over(self):
        run = run_of(*LOCKS, turns="0")
        self.assertEqual(waited_slowly(run), [((0, 0), (1, 0))])
        one, other = (0, 0), (1, 0)
        self.refused(run, (one, other), one, other)

    def test_the_run_stays(self):
        run = run_of("store 0, 1", "load a, 0", turns="01")
        turned(pair=((0, 0), (1, 0)), run=run).turns().clear()
        self.assertEqual((run.turns(), pairs(run)), ([0, 1], [((0, 0), (1, 0))]))


class ReachedTest(unittest.TestCase):
    def test_all_kinds(self):
        seen = 0
        for seed in range(140):
            program = some_program(seed, phrases=4)
            inputs = [[1] for _ in program]
            try:
                due = all_runs(program, inputs, most=400)
            except (TooMany, TooLong):
                continue
            seen = max(seen, len(due))
            for turns in due[:3] + due[-1:]:
                with self.subTest(seed=seed, turns=turns):
                    self.assertEqual(reached(Run(program, inputs, turns)), due)
        self.assertTrue(seen > 8)

    def test_from_turns_that_are_not_least(self):
        program = program_of("load a, 0; store 0, a 1 +", "load a, 0; store 0, a 1 +", "tell 1")
        inputs = [[], [], []]
        due = all_runs(program, inputs)
        self.assertEqual(len(due), 4)
        for seed in range(12):
            run = Run(program, inputs, drawn_turns(program, inputs, drawn(seed, 9)))
            told = reached(run)
            self.assertEqual(told, due)
            self.assertIn(least_turns(run), told)

    def test_one_kind_alone(self):
        self.assertEqual(reached(run_of("tell 1", "tell 2", turns="10")), [[0, 1]])
        self.assertEqual(reached(Run(program_of(""), [[]], [])), [[]])

    def test_waited_ones_are_needed(self):
        # Whoever locks first never frees: no pair tells of the other one.
        run = run_of(*LOCKS, turns="00")
        self.assertEqual(pairs(run), [])
        self.assertEqual(reached(run), [[0, 0], [1, 1]])
        self.assertEqual(reached(run_of(*LINE, turns="022")), [[0, 1, 1], [0, 2, 2]])

    def test_beyond_sixty_turns(self):
        run = run_of("set a, a 1 +; if a 40 <, 0; store 0, 1", "load a, 0", turns="0" * 81 + "1")
        self.assertEqual(reached(run), [[0] * 80 + [0, 1], [0] * 80 + [1, 0]])

    def test_too_many(self):
        program = program_of("load a, 0; store 0, a 1 +", "load a, 0; store 0, a 1 +")
        run = Run(program, [[], []], [1, 1, 0, 0])
        self.assertEqual(len(reached(run, most=4)), 4)
        for most in (3, 1, 0):
            with self.assertRaises(TooMany) as caught:
                reached(run, most=most)
            self.assertIs(type(caught.exception), TooMany)
            self.assertEqual(caught.exception.most, most)
        self.assertEqual(reached(run_of("tell 1", turns="0"), most=1), [[0]])
        with self.assertRaises(TypeError):
            reached(run, 4)

    def test_two_thousand_left_out(self):
        # Of each of eleven cells either the store or the load comes first: 2 ** 11 kinds.
        stores = "; ".join([f"store {cell}, 1" for cell in range(11)])
        loads = "; ".join([f"load a, {cell}" for cell in range(11)])
        run = run_of(stores, loads, turns="0" * 11 + "1" * 11)
        with self.assertRaises(TooMany) as caught:
            reached(run)
        self.assertEqual(caught.exception.most, 2000)
        self.assertEqual(len(reached(run, most=2048)), 2048)

    def test_too_long(self):
        with self.assertRaises(TooLong) as caught:
            reached(run_of(*LOOP, turns="011"))
        self.assertIs(type(caught.exception), TooLong)
        self.assertEqual(caught.exception.limit, 400)

    def test_just_four_hundred(self):
        # Whoever loads 0 does 198 rounds of two steps, and the tells behind them.
        rows = "load a, 0; if a, 4; set b, b 1 +; if b {} <, 2"
        run = run_of("store 0, 1", rows.format(198) + "; tell 1", turns="0111")
        told = reached(run)
        self.assertEqual([len(turns) for turns in told], [4, 400])
        with self.assertRaises(TooLong):
            reached(run_of("store 0, 1", rows.format(198) + "; tell 1; tell 2", turns="01111"))

    def test_the_lists_are_the_askers(self):
        run = run_of(*LOCKS, turns="00")
        told = reached(most=7, run=run)
        self.assertEqual([type(told), type(told[0])], [list, list])
        told[0].clear()
        told.clear()
        self.assertEqual(reached(run), [[0, 0], [1, 1]])
        self.assertEqual(run.turns(), [0, 0])

    def test_each_run_that_is_over_is_among_them(self):
        for seed in range(60):
            program = some_program(seed)
            inputs = [[1] for _ in program]
            turns = all_turns(program, inputs)
            if turns is None:
                continue
            over = [run for run in [Run(program, inputs, row) for row in turns] if run.is_over()]
            due = sorted(set([tuple(least_turns(run)) for run in over]))
            with self.subTest(seed=seed):
                self.assertEqual([tuple(row) for row in reached(over[0])], due)


if __name__ == "__main__":
    unittest.main()
