"""Promise 46: the fewest switches to a goal."""

import unittest

from replaytravel.bounds import MOST_STATES
from replaytravel.errors import TooMany
from replaytravel.fewest import fewest
from replaytravel.fewlooks import bars_fewer
from replaytravel.goals import comes_to
from replaytravel.machine import Machine
from replaytravel.turns import switches
from tests.helpers import drawn, program_of
from tests.slow import all_turns, goals_of, some_program, state_behind

COUNT = program_of("load a, 0; store 0, a 1 +; load b, 0; check b 2 <", "load a, 0; store 0, a 1 +")
NONE = [[], []]
LOCKS = program_of("lock 0; lock 1; free 1; free 0", "lock 1; lock 0; free 0; free 1")
# Small ones that need some switches to fall, and for a cell.
SMALL = [
    COUNT,
    program_of("store 0, 1; load a, 1; check a 0 =; tell 2", "load a, 0; store 1, a"),
    program_of("load a, 0; check a 1 <; tell 1", "store 0, 1; tell 1"),
    program_of("store 0, 1; load a, 1; store 0, a a +; tell a 2 *", "load a, 0; store 1, a"),
]


def machine_behind(program, inputs, turns):
    machine = Machine(program, inputs)
    for thread in turns:
        machine.step(thread)
    return machine


class FewestTest(unittest.TestCase):
    def looked_at(self, program, inputs, goal, **more):
        """What is told, its turns and its paper looked at."""
        told = fewest(program, inputs, goal, **more)
        self.assertEqual((type(told), len(told), type(told[2])), (tuple, 3, list))
        many, turns, paper = told
        self.assertIs(bars_fewer(program, inputs, goal, many, paper), True)
        if many is None:
            self.assertIs(turns, None)
            return None
        self.assertEqual([type(many), type(turns)], [int, list])
        self.assertEqual(switches(turns), many)
        self.assertIs(comes_to(machine_behind(program, inputs, turns), goal), True)
        self.assertIs(bars_fewer(program, inputs, goal, many + 1, paper), False)
        self.assertIs(bars_fewer(program, inputs, goal, None, paper), False)
        return many

    def test_beside_all_turns(self):
        seen = {}
        for seed, program in enumerate([some_program(seed) for seed in range(90)] + SMALL):
            inputs = [[1] for _ in program]
            known = all_turns(program, inputs)
            if known is None:
                continue
            machines = [(switches(turns), machine_behind(program, inputs, turns)) for turns in known]
            for goal in goals_of(program):
                due = min([many for many, machine in machines if comes_to(machine, goal)], default=None)
                with self.subTest(seed=seed, goal=goal):
                    self.assertEqual(self.looked_at(program, inputs, goal), due)
                seen[goal[0], due] = True
        for word in ("falls", "stuck", "cell", "told"):
            for many in (None, 0, 1, 2):
                self.assertIn((word, many), seen)

    def test_told(self):
        self.assertEqual(self.looked_at(COUNT, NONE, ("falls", 0, 3)), 1)
        self.assertEqual(self.looked_at(COUNT, NONE, ("cell", 0, 2)), 1)
        self.assertEqual(self.looked_at(COUNT, NONE, ("cell", 0, 1)), 0)
        self.assertEqual(self.looked_at(LOCKS, NONE, ("stuck",)), 1)
        # Turns 0 1 0 at least: the one that tells must be gone to again.
        program = program_of("load a, 0; tell a; load a, 0; tell a 3 *", "store 0, 1")
        self.assertEqual(self.looked_at(program, NONE, ("told", 0, 3)), 1)
        program = program_of("store 0, 1; load a, 1; tell a", "load a, 0; store 1, a")
        self.assertEqual(self.looked_at(program, NONE, ("told", 0, 1)), 2)

    def test_many_switches(self):
        # Each takes what the other one sends: there is no other way than by turns.
        one = "; ".join(["send 0, 1; take a, 1"] * 5)
        other = "; ".join(["take a, 0; send 1, 1"] * 5)
        program = program_of(one + "; tell 7", other)
        self.assertEqual(self.looked_at(program, NONE, ("told", 0, 7)), 10)

    def test_the_first_machine_comes_to_it(self):
        for program, goal in ((COUNT, ("cell", 0, 0)), (program_of("take a, 0", ""), ("stuck",)), (COUNT, ("cell", 63, 0))):
            self.assertEqual(self.looked_at(program, NONE, goal), 0)

    def test_none_comes_to_it(self):
        for goal in (("cell", 0, 3), ("stuck",), ("told", 0, 0), ("falls", 1, 1), ("cell", 5, 1)):
            self.assertEqual(self.looked_at(COUNT, NONE, goal), None)
        self.assertEqual(fewest(program_of(""), [[]], ("stuck",))[:2], (None, None))

    def test_behind_the_last_turn_and_no_longer_later(self):
        # The cell holds 5 for one step alone.
        program = program_of("store 0, 5; store 0, 0; tell 1")
        self.assertEqual(self.looked_at(program, [[]], ("cell", 0, 5)), 0)
        self.assertEqual(fewest(program, [[]], ("cell", 0, 5))[1], [0])

    def test_inputs_count(self):
        program = program_of("input a; store 0, a; input a; check a", "load b, 0; tell b")
        self.assertEqual(self.looked_at(program, [[4, 1], []], ("told", 1, 4)), 1)
        self.assertEqual(self.looked_at(program, [[5, 1], []], ("told", 1, 4)), None)
        self.assertEqual(self.looked_at(program, [[5, 1], []], ("falls", 0, 3)), None)
        self.assertEqual(self.looked_at(program, [[5, 0], []], ("falls", 0, 3)), 0)
        self.assertEqual(self.looked_at(program, [[5], []], ("falls", 0, 2)), 0)

    def test_a_program_that_goes_round_without_end(self):
        program = program_of("go 0", "swap a, 0, a 1 + 3 #; go 0")
        self.assertEqual(self.looked_at(program, NONE, ("cell", 0, 2)), 0)
        self.assertEqual(self.looked_at(program, NONE, ("cell", 0, 4)), None)
        self.assertEqual(self.looked_at(program, NONE, ("stuck",)), None)

    def test_more_than_four_hundred_turns(self):
        program = program_of("set a, a 1 +; if a 250 <, 0; store 0, 1", "load b, 0; check b; tell 1")
        self.assertEqual(self.looked_at(program, NONE, ("told", 1, 1)), 1)
        self.assertTrue(len(fewest(program, NONE, ("told", 1, 1))[1]) > 500)

    def test_what_is_told_is_the_askers(self):
        before = repr(fewest(COUNT, NONE, ("cell", 0, 2)))
        many, turns, paper = fewest(COUNT, NONE, ("cell", 0, 2))
        turns.clear()
        paper.clear()
        self.assertEqual(repr(fewest(most=90, goal=("cell", 0, 2), inputs=NONE, program=COUNT)), before)
        self.assertEqual(NONE, [[], []])


class TooManyTest(unittest.TestCase):
    def refused(self, program, inputs, goal, **more):
        with self.assertRaises(TooMany) as caught:
            fewest(program, inputs, goal, **more)
        self.assertIs(type(caught.exception), TooMany)
        self.assertEqual(caught.exception.most, more.get("most", 2000))

    def test_just_as_many_and_one_more(self):
        for seed in range(40):
            program = some_program(seed)
            inputs = [[1] for _ in program]
            known = all_turns(program, inputs)
            if known is None:
                continue
            many = len({state_behind(program, inputs, turns) for turns in known})
            # Whether the goal is come to or not, at once or late.
            for goal in (("cell", 0, 0), ("cell", 0, 1), ("cell", 9, 9)):
                with self.subTest(seed=seed, goal=goal):
                    self.assertEqual(fewest(program, inputs, goal, most=many)[:2], fewest(program, inputs, goal)[:2])
                    self.refused(program, inputs, goal, most=many - 1)
                    self.refused(program, inputs, goal, most=0)

    def test_left_out_it_is_two_thousand(self):
        self.assertEqual(MOST_STATES, 2000)
        # Threads that have nothing to do with one another: a state for each count of steps of each.
        program = program_of(*["; ".join(["tell 1"] * many) for many in (9, 9, 19)])
        self.assertEqual(fewest(program, [[]] * 3, ("told", 2, 1))[:2], (0, [2]))
        program = program_of(*["; ".join(["tell 1"] * many) for many in (2, 22, 28)])
        self.refused(program, [[]] * 3, ("told", 2, 1))
        self.assertEqual(fewest(program, [[]] * 3, ("told", 2, 1), most=2001)[:2], (0, [2]))

    def test_states_without_end(self):
        self.refused(program_of("tell 1; go 0"), [[]], ("told", 0, 1))
        self.refused(program_of("set a, a 1 +; go 0"), [[]], ("told", 0, 1))
        self.refused(program_of("send 0, 1; go 0"), [[]], ("cell", 0, 0), most=50)

    def test_by_name_alone(self):
        with self.assertRaises(TypeError):
            fewest(COUNT, NONE, ("stuck",), 100)


class DrawnGoalsTest(unittest.TestCase):
    def test_longer_programs(self):
        """Beside the fewest switches of states and last threads, brought down until nothing changes."""
        for seed in range(12):
            program = some_program(seed, phrases=5)
            inputs = [[1] for _ in program]
            goals = goals_of(program)
            goal = goals[drawn(seed, 1)[0] % len(goals)]
            with self.subTest(seed=seed, goal=goal):
                self.assertEqual(fewest(program, inputs, goal)[0], fewest_slowly(program, inputs, goal))


def fewest_slowly(program, inputs, goal):
    """Level by level: all machines that some switches come to, told apart by state and last thread."""
    level, known, many = [(None, Machine(program, inputs))], set(), 0
    while level:
        behind, nexts = list(level), []
        while behind:
            last, machine = behind.pop()
            if (last, machine.state()) in known:
                continue
            known.add((last, machine.state()))
            if comes_to(machine, goal):
                return many
            for thread in machine.ready():
                other = machine.copied()
                other.step(thread)
                (behind if last in (None, thread) else nexts).append((thread, other))
        level, many = nexts, many + 1
    return None


if __name__ == "__main__":
    unittest.main()
