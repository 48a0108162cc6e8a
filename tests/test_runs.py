"""Promise 14: runs."""

import unittest

from replaytravel.errors import NoStep, NotReady, NoThread, NoTime
from replaytravel.machine import Machine
from replaytravel.runs import Run
from tests.helpers import anything, is_number_below, machine_of, picture, program_of

PROGRAM = program_of("lock 0; store 1, 5; free 0; send 0, 7", "lock 0; load a, 1; free 0; tell a; take b, 0")
TURNS = [0, 0, 0, 1, 1, 0, 1, 1, 1]
STEPS = [
    (0, 0, "lock", ("lock", 0), None, None),
    (0, 1, "store", ("cell", 1), None, 5),
    (0, 2, "free", ("lock", 0), None, None),
    (1, 0, "lock", ("lock", 0), None, None),
    (1, 1, "load", ("cell", 1), 5, None),
    (0, 3, "send", ("line", 0), None, 7),
    (1, 2, "free", ("lock", 0), None, None),
    (1, 3, "tell", None, None, 5),
    (1, 4, "take", ("line", 0), 7, None),
]
NAMES = [(0, 0), (0, 1), (0, 2), (1, 0), (1, 1), (0, 3), (1, 2), (1, 3), (1, 4)]


class ToldTest(unittest.TestCase):
    def setUp(self):
        self.run_of = Run(PROGRAM, [[], []], TURNS)

    def test_program_inputs_turns(self):
        run = Run(program_of("input a", ""), [[4, 5], [6]], [0])
        self.assertEqual((run.program(), run.inputs(), run.turns()), (program_of("input a", ""), [[4, 5], [6]], [0]))
        self.assertEqual([type(run.inputs()), type(run.inputs()[0]), type(run.turns())], [list, list, list])

    def test_steps_and_names(self):
        self.assertEqual(self.run_of.steps(), STEPS)
        self.assertEqual(self.run_of.names(), NAMES)
        self.assertEqual(len(self.run_of), 9)

    def test_numbers(self):
        self.assertEqual([self.run_of.number(name) for name in NAMES], list(range(9)))

    def test_machines_of_each_time(self):
        machine = Machine(PROGRAM, [[], []])
        for time in range(10):
            told = self.run_of.machine(time)
            with self.subTest(time=time):
                self.assertIs(type(told), Machine)
                self.assertTrue(told == machine)
                self.assertEqual(picture(told, 2), picture(machine, 2))
                self.assertEqual(told.ready(), machine.ready())
            if time < 9:
                machine.step(TURNS[time])

    def test_machines_of_falls_ifs_and_inputs(self):
        program = program_of("input a; tell a; if a, 0; check a", "go 0", "swap a, 1, 3; set b, a; free 0")
        turns = [0, 2, 0, 1, 0, 2, 0, 2, 0, 0, 0]
        run = Run(program, [[1, 0], [], []], turns)
        machine = Machine(program, [[1, 0], [], []])
        for time, thread in enumerate(turns):
            self.assertTrue(run.machine(time) == machine)
            self.assertEqual(run.steps()[time], machine.step(thread))
        self.assertTrue(run.machine(len(turns)) == machine)
        self.assertEqual([machine.word(thread) for thread in range(3)], ["fallen", "ready", "fallen"])

    def test_is_over(self):
        for time in range(9):
            self.assertIs(Run(PROGRAM, [[], []], TURNS[:time]).is_over(), False)
        self.assertIs(self.run_of.is_over(), True)
        self.assertIs(Run(program_of(""), [[]], []).is_over(), True)
        self.assertIs(Run(program_of("take a, 0"), [[]], []).is_over(), True)
        self.assertIs(Run(program_of("check 0"), [[]], []).is_over(), False)
        self.assertIs(Run(program_of("check 0"), [[]], [0]).is_over(), True)

    def test_no_turns(self):
        run = Run(PROGRAM, [[], []], [])
        self.assertEqual((len(run), run.steps(), run.names(), run.turns()), (0, [], [], []))
        self.assertTrue(run.machine(0) == Machine(PROGRAM, [[], []]))

    def test_four_hundred_turns(self):
        run = Run(program_of("set a, a 1 +; go 0", "tell 1; go 0"), [[], []], [0, 1] * 200)
        self.assertEqual(len(run), 400)
        self.assertEqual(run.names()[398:], [(0, 199), (1, 199)])
        self.assertEqual(run.number((1, 199)), 399)
        self.assertEqual(run.machine(400).worth(0, "a"), 100)
        self.assertEqual(len(run.machine(400).told(1)), 100)

    def test_somewhat_beyond(self):
        self.assertEqual(len(Run(program_of("go 0"), [[]], [0] * 405)), 405)

    def test_by_name(self):
        run = Run(turns=[0], inputs=[[3]], program=program_of("input a"))
        self.assertEqual(run.number(name=(0, 0)), 0)
        self.assertEqual(run.machine(time=1).worth(0, "a"), 3)

    def test_names_of_four_threads(self):
        run = Run(program_of(*["go 0"] * 4), [[]] * 4, [3, 1, 3, 0, 2, 1])
        self.assertEqual(run.names(), [(3, 0), (1, 0), (3, 1), (0, 0), (2, 0), (1, 1)])


class EqualTest(unittest.TestCase):
    def test_alike_and_not(self):
        program = program_of("input a; set b, 1", "set b, 1")
        run = Run(program, [[1, 2], []], [0, 1])
        self.assertIs(run == Run(program, [[1, 2], []], [0, 1]), True)
        self.assertIs(run != Run(program, [[1, 2], []], [0, 1]), False)
        self.assertIs(run == Run(program, [[1, 2], []], [1, 0]), False)
        self.assertIs(run == Run(program, [[1, 2], []], [0]), False)
        self.assertIs(run == Run(program, [[1, 3], []], [0, 1]), False)
        self.assertIs(run == Run(program, [[1, 2], [0]], [0, 1]), False)
        self.assertIs(run == Run(program_of("input a; set b, 2", "set b, 1"), [[1, 2], []], [0, 1]), False)

    def test_another_kind_of_thing(self):
        run = Run(PROGRAM, [[], []], TURNS)
        for thing in [*anything(), TURNS, STEPS, object(), run.machine(0)]:
            with self.subTest(kind=type(thing).__name__):
                self.assertIs(run == thing, False)
                self.assertIs(run != thing, True)
        self.assertIs(machine_of("go 0") == Run(program_of("go 0"), [[]], []), False)


class RefusedTest(unittest.TestCase):
    def refused(self, program, turns, nth, who, what):
        with self.assertRaises(NotReady) as caught:
            Run(program, [[] for _ in program], turns)
        refusal = caught.exception
        self.assertEqual((type(refusal), refusal.nth, refusal.who, refusal.what), (NotReady, nth, who, what))

    def test_not_ready(self):
        self.refused(program_of("take a, 0"), [0], 0, 0, "waits")
        self.refused(program_of("lock 0", "lock 0"), [0, 1, 1], 1, 1, "waits")
        self.refused(program_of("set a, 1", "go 0"), [0, 1, 0, 1], 2, 0, "ended")
        self.refused(program_of(""), [0], 0, 0, "ended")
        self.refused(program_of("go 0", "check 0"), [0, 1, 0, 1], 3, 1, "fallen")

    def test_the_first_of_several(self):
        self.refused(program_of("take a, 0", "set a, 1"), [1, 1, 0], 1, 1, "ended")
        self.refused(program_of("take a, 0", "set a, 1"), [1, 0, 1], 1, 0, "waits")

    def no_thread(self, turns, asked):
        with self.assertRaises(NoThread) as caught:
            Run(program_of("set a, 1", "set a, 1"), [[], []], turns)
        self.assertIs(type(caught.exception), NoThread)
        self.assertIs(caught.exception.asked, asked)

    def test_no_thread(self):
        for asked in (-1, 2, 4, 10 ** 29):
            self.no_thread([asked], asked)
            self.no_thread([0, 1, asked, 0], asked)

    def test_whichever_comes_first(self):
        self.no_thread([0, 7, 0], 7)
        self.refused(program_of("set a, 1", "set a, 1"), [0, 0, 7], 1, 0, "ended")

    def test_refused_changes_nothing(self):
        inputs, turns = [[1]], [0, 0]
        with self.assertRaises(NotReady):
            Run(program_of("input a"), inputs, turns)
        self.assertEqual((inputs, turns), ([[1]], [0, 0]))

    def test_names_of_anything(self):
        run = Run(PROGRAM, [[], []], TURNS)
        more = [(0, 3), (0, 4), (1, 4), (1, 5), (2, 0), (-1, 0), (0, -1), (True, 0), (0, False), (1, True), (True, True),
                [0, 0], (0,), (0, 0, 0), ("0", 0), (0, "0"), (0, None), ((0, 0),), ([0], 0), (0, [0]), (0, {}),
                (0, 10 ** 5000), "00", {0: 0}]
        for thing in anything() + more:
            good = isinstance(thing, tuple) and [type(part) for part in thing] == [int, int] and thing in NAMES
            with self.subTest(kind=type(thing).__name__):
                if good:
                    self.assertEqual(run.number(thing), NAMES.index(thing))
                    continue
                with self.assertRaises(NoStep) as caught:
                    run.number(thing)
                self.assertIs(type(caught.exception), NoStep)
                self.assertIs(caught.exception.asked, thing)

    def test_times_of_anything(self):
        for turns in ([], TURNS[:1], TURNS):
            run = Run(PROGRAM, [[], []], turns)
            for thing in anything() + [9, 10, -2]:
                with self.subTest(kind=type(thing).__name__, many=len(turns)):
                    if is_number_below(thing, len(turns) + 1):
                        run.machine(thing)
                        continue
                    with self.assertRaises(NoTime) as caught:
                        run.machine(thing)
                    self.assertIs(type(caught.exception), NoTime)
                    self.assertIs(caught.exception.asked, thing)


class OwnTest(unittest.TestCase):
    def told(self, run):
        # As a text, which nothing that is done to the lists can change.
        return repr((run.program(), run.inputs(), run.turns(), run.steps(), run.names(), len(run),
                     [run.machine(time).state() for time in range(len(run) + 1)], run.is_over()))

    def test_lists_told_and_changed(self):
        run = Run(program_of("input a; input b", "set a, 1"), [[1, 2], [3]], [0, 1])
        before = self.told(run)
        run.inputs()[0].append(9)
        run.inputs().clear()
        run.turns().append(0)
        run.steps().clear()
        run.names().reverse()
        run.machine(1).step(1)
        run.machine(2).step(0)
        self.assertEqual(self.told(run), before)
        self.assertEqual(run.number((0, 0)), 0)

    def test_turns_and_inputs_changed_behind(self):
        inputs, turns = [[1, 2], [3]], [0, 1]
        program = program_of("input a; input b", "set a, 1")
        run = Run(program, inputs, turns)
        before = self.told(run)
        inputs[0][0] = 7
        inputs[1].clear()
        inputs.append([])
        turns.append(0)
        turns[0] = 1
        self.assertEqual(self.told(run), before)
        self.assertTrue(run == Run(program, [[1, 2], [3]], [0, 1]))

    def test_what_is_handed_in_stays(self):
        inputs, turns = [[1, 2], [3]], [0, 1, 0]
        run = Run(program_of("input a; input b", "set a, 1"), inputs, turns)
        self.told(run)
        self.assertEqual((inputs, turns), ([[1, 2], [3]], [0, 1, 0]))


if __name__ == "__main__":
    unittest.main()
