"""Promise 9, and what a machine is asked and refuses."""

import unittest

from replaytravel.errors import NoPlace, NotReady, NoThread
from replaytravel.machine import Machine
from tests.helpers import LETTERS, anything, changed, is_number_below, machine_of, picture, program_of

SOME = ("lock 0; store 1, 5; send 2, 6; tell 7; set a, 8; free 0", "input b; take c, 2; check 0")


class FirstStateTest(unittest.TestCase):
    def test_all_is_zero_free_and_empty(self):
        machine = machine_of("go 0", "input a", inputs=[[], [4, 5]])
        told = picture(machine, 2)
        for key, worth in told.items():
            with self.subTest(key=key):
                if key[0] == "lock":
                    self.assertIsNone(worth)
                elif key[0] in ("line", "told"):
                    self.assertEqual(worth, [])
                elif key[0] == "fallen":
                    self.assertIs(worth, False)
                elif key == ("left", 1):
                    self.assertEqual(worth, 2)
                else:
                    self.assertIs(type(worth), int)
                    self.assertEqual(worth, 0)

    def test_the_first_and_last_places(self):
        machine = machine_of("store 0, 3; store 63, 4; lock 0; lock 7; send 0, 5; send 7, 6")
        for _ in range(6):
            machine.step(0)
        self.assertEqual([machine.cell(0), machine.cell(63)], [3, 4])
        self.assertEqual([machine.holder(0), machine.holder(7)], [0, 0])
        self.assertEqual([machine.line(0), machine.line(7)], [[5], [6]])

    def test_none_to_sixty_inputs(self):
        for many in (0, 1, 59, 60):
            machine = machine_of("input a; go 0", "", inputs=[list(range(many)), []])
            got = []
            while machine.left(0):
                got.append(machine.step(0)[4])
                machine.step(0)
            with self.subTest(many=many):
                self.assertEqual(got, list(range(many)))
                self.assertEqual(machine.step(0)[2], "falls")

    def test_inputs_stay_as_they_were(self):
        inputs = [[1, 2], [3]]
        machine = Machine(program_of("input a; input b", "input a"), inputs)
        for thread in (0, 1, 0):
            machine.step(thread)
        self.assertEqual(inputs, [[1, 2], [3]])

    def test_inputs_changed_behind_change_nothing(self):
        inputs = [[1, 2], [3]]
        machine = Machine(program_of("input a; input b", "input a"), inputs)
        twin = Machine(program_of("input a; input b", "input a"), [[1, 2], [3]])
        inputs[0][0] = 9
        inputs[1].append(4)
        inputs.pop(0)
        self.assertEqual(machine.left(1), 1)
        self.assertTrue(machine == twin)
        self.assertEqual(machine.step(0)[4], 1)

    def test_each_thread_has_its_own(self):
        machine = machine_of("set a, 1; tell 2", "set a, 3; tell 4")
        for thread in (0, 1, 1, 0):
            machine.step(thread)
        self.assertEqual([machine.worth(thread, "a") for thread in (0, 1)], [1, 3])
        self.assertEqual([machine.told(thread) for thread in (0, 1)], [[2], [4]])

    def test_by_name(self):
        machine = Machine(inputs=[[5]], program=program_of("input a"))
        self.assertEqual(machine.word(thread=0), "ready")
        self.assertEqual(machine.step(thread=0), (0, 0, "input", None, 5, None))
        self.assertEqual([machine.row(thread=0), machine.left(thread=0), machine.told(thread=0)], [1, 0, []])
        self.assertEqual([machine.cell(number=0), machine.line(number=0), machine.holder(lock=0)], [0, [], None])
        self.assertEqual(machine.worth(letter="a", thread=0), 5)


class RefusalsTest(unittest.TestCase):
    def setUp(self):
        self.machine = machine_of(*SOME, inputs=[[], [1]])
        for thread in (0, 0, 1):
            self.machine.step(thread)

    def refused(self, kind, asked, ask, *things):
        before = self.machine.state()
        with self.assertRaises(kind) as caught:
            ask(*things)
        self.assertIs(type(caught.exception), kind)
        self.assertIs(caught.exception.asked, asked)
        self.assertEqual(self.machine.state(), before)

    def test_threads_of_anything(self):
        asks = (self.machine.word, self.machine.step, self.machine.row, self.machine.left, self.machine.told)
        for thing in [*anything(), -2, 5]:
            for ask in asks:
                if not is_number_below(thing, 2):
                    with self.subTest(ask=ask.__name__, kind=type(thing).__name__):
                        self.refused(NoThread, thing, ask, thing)

    def test_threads_next_to_the_ends(self):
        for many in (1, 2, 3, 4):
            machine = machine_of(*["go 0"] * many)
            self.assertEqual([machine.row(thread) for thread in range(many)], [0] * many)
            for thing in (-1, many, many + 1):
                with self.assertRaises(NoThread):
                    machine.row(thing)

    def test_places_of_anything(self):
        asks = ((self.machine.cell, 64), (self.machine.holder, 8), (self.machine.line, 8))
        for thing in [*anything(), 9, 62, 65, -64]:
            for ask, many in asks:
                with self.subTest(ask=ask.__name__, kind=type(thing).__name__):
                    if is_number_below(thing, many):
                        ask(thing)
                    else:
                        self.refused(NoPlace, thing, ask, thing)

    def test_letters_of_anything(self):
        for thing in [*anything(), "A", "aa", "abc", " ", "o", "z"]:
            with self.subTest(kind=type(thing).__name__):
                if isinstance(thing, str) and thing in list(LETTERS):
                    self.assertEqual(self.machine.worth(0, thing), 0)
                else:
                    self.refused(NoPlace, thing, self.machine.worth, 0, thing)

    def test_the_thread_ahead_of_the_letter(self):
        for thing in anything():
            if not is_number_below(thing, 2):
                self.refused(NoThread, thing, self.machine.worth, thing, "q")
                self.refused(NoThread, thing, self.machine.worth, thing, thing)

    def not_ready(self, machine, thread, what):
        before = machine.state()
        with self.assertRaises(NotReady) as caught:
            machine.step(thread)
        refusal = caught.exception
        self.assertEqual((type(refusal), refusal.nth, refusal.who, refusal.what), (NotReady, None, thread, what))
        self.assertEqual(machine.state(), before)

    def test_not_ready(self):
        machine = machine_of("check 0", "", "take a, 0", "lock 1; lock 1")
        machine.step(0)
        machine.step(3)
        self.not_ready(machine, 0, "fallen")
        self.not_ready(machine, 1, "ended")
        self.not_ready(machine, 2, "waits")
        self.not_ready(machine, 3, "waits")

    def test_lists_are_the_askers_own(self):
        machine = machine_of("send 0, 1; tell 2; lock 0; lock 0")
        for _ in range(3):
            machine.step(0)
        before = machine.state()
        machine.line(0).append(5)
        machine.told(0).clear()
        machine.ready().append(0)
        machine.waits().clear()
        machine.rings().clear()
        self.assertEqual((machine.line(0), machine.told(0), machine.ready()), ([1], [2], []))
        self.assertEqual((machine.waits(), machine.rings()), ([(0, "lock", 0, 0)], [(0,)]))
        self.assertEqual(machine.state(), before)

    def test_what_was_told_stays(self):
        machine = machine_of("send 0, 1; tell 2; send 0, 3; tell 4")
        machine.step(0)
        machine.step(0)
        line, told = machine.line(0), machine.told(0)
        machine.step(0)
        machine.step(0)
        self.assertEqual((line, told), ([1], [2]))


class EqualTest(unittest.TestCase):
    def test_alike_and_not(self):
        one, other = machine_of(*SOME), machine_of(*SOME)
        self.assertIs(one == other, True)
        one.step(0)
        self.assertIs(one == other, False)
        self.assertIs(one != other, True)
        other.step(0)
        self.assertIs(one == other, True)

    def test_of_another_program_or_other_inputs(self):
        machine = machine_of("input a", "", inputs=[[1], []])
        self.assertIs(machine == machine_of("input a", "", inputs=[[1], []]), True)
        self.assertIs(machine == machine_of("input b", "", inputs=[[1], []]), False)
        self.assertIs(machine == machine_of("input a", "", inputs=[[2], []]), False)
        self.assertIs(machine == machine_of("input a", "", inputs=[[1, 2], []]), False)
        self.assertIs(machine == machine_of("input a", "", inputs=[[1], [1]]), False)

    def test_left_alike_of_other_inputs(self):
        one = machine_of("input a; set a, 0", inputs=[[1, 3]])
        other = machine_of("input a; set a, 0", inputs=[[2, 3]])
        for machine in (one, other):
            machine.step(0)
            machine.step(0)
        self.assertEqual(one.state(), other.state())
        self.assertIs(one == other, False)

    def test_another_kind_of_thing(self):
        machine = machine_of("go 0")
        for thing in [*anything(), machine.state(), object(), program_of("go 0")]:
            with self.subTest(kind=type(thing).__name__):
                self.assertIs(machine == thing, False)
                self.assertIs(machine != thing, True)


class CopiedTest(unittest.TestCase):
    def test_as_it_is(self):
        machine = machine_of(*SOME, inputs=[[], [1, 2]])
        for thread in (0, 0, 0, 0, 1, 1, 1, 0):
            machine.step(thread)
            twin = machine.copied()
            self.assertIs(type(twin), Machine)
            self.assertIs(twin == machine, True)
            self.assertEqual(picture(twin, 2), picture(machine, 2))

    def test_each_goes_its_own_way(self):
        rows = ("lock 0; store 1, 5; send 2, 6; tell 7; set a, 8; input b; free 0; take c, 2; check 0",)
        for done in range(9):
            machine = machine_of(*rows, inputs=[[9]])
            for _ in range(done):
                machine.step(0)
            twin = machine.copied()
            before, state = picture(machine, 1), machine.state()
            twin.step(0)
            with self.subTest(done=done):
                self.assertEqual((picture(machine, 1), machine.state()), (before, state))
                self.assertTrue(changed(before, picture(twin, 1)))
            twin = machine.copied()
            machine.step(0)
            with self.subTest(done=done):
                self.assertEqual((picture(twin, 1), twin.state()), (before, state))


if __name__ == "__main__":
    unittest.main()
