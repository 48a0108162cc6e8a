"""Promise 45: goals, and whether a machine comes to one."""

import unittest

from replaytravel.goals import comes_to
from tests.helpers import machine_of, picture


class FallsTest(unittest.TestCase):
    def test_fallen_at_the_row(self):
        machine = machine_of("tell 1; check 0; tell 2", "check 0")
        goals = [("falls", thread, row) for thread, rows in ((0, 3), (1, 1)) for row in range(rows)]
        self.assertEqual([comes_to(machine, goal) for goal in goals], [False] * 4)
        machine.step(0)
        self.assertEqual([comes_to(machine, goal) for goal in goals], [False] * 4)
        machine.step(0)
        self.assertEqual([comes_to(machine, goal) for goal in goals], [False, True, False, False])
        machine.step(1)
        self.assertEqual([comes_to(machine, goal) for goal in goals], [False, True, False, True])

    def test_at_the_row_and_not_fallen(self):
        machine = machine_of("take a, 0", "lock 0; lock 0", "")
        machine.step(1)
        self.assertIs(comes_to(machine, ("falls", 0, 0)), False)
        self.assertIs(comes_to(machine, ("falls", 1, 1)), False)

    def test_each_kind_of_fall(self):
        for row in ("check 0", "load a, 64", "store -1, 1", "swap a, 99, 1", "lock 8", "free 0", "send 8, 1", "take a, 8",
                    "input a"):
            machine = machine_of(row)
            self.assertIs(comes_to(machine, ("falls", 0, 0)), False)
            machine.step(0)
            self.assertIs(comes_to(machine, ("falls", 0, 0)), True)


class StuckTest(unittest.TestCase):
    def test_stuck(self):
        machine = machine_of("lock 0; lock 1", "lock 1; lock 0")
        told = [comes_to(machine, ("stuck",))]
        for thread in (0, 1):
            machine.step(thread)
            told.append(comes_to(machine, ("stuck",)))
        self.assertEqual(told, [False, False, True])

    def test_over_and_not_stuck(self):
        for rows, turns in (("", 0), ("tell 1", 1), ("check 0", 1)):
            machine = machine_of(rows)
            for _ in range(turns):
                machine.step(0)
            self.assertEqual(machine.end(), "over")
            self.assertIs(comes_to(machine, ("stuck",)), False)

    def test_one_waits_and_another_is_ready(self):
        machine = machine_of("take a, 0", "go 0")
        self.assertIs(comes_to(machine, ("stuck",)), False)
        self.assertIs(comes_to(machine_of("take a, 0", ""), ("stuck",)), True)


class CellTest(unittest.TestCase):
    def test_cells(self):
        machine = machine_of("store 63, -5; store 63, 0; swap a, 0, 7")
        told = []
        for _ in range(4):
            told.append([comes_to(machine, ("cell", n, worth)) for n, worth in ((63, -5), (63, 0), (0, 7), (0, 0))])
            if machine.ready():
                machine.step(0)
        self.assertEqual(told, [
            [False, True, False, True], [True, False, False, True], [False, True, False, True], [False, True, True, False]])


class ToldTest(unittest.TestCase):
    def test_told_by_the_thread_at_any_time(self):
        machine = machine_of("tell 3; tell 0; tell -2", "tell 9; store 0, 4")
        for thread in (0, 0, 0, 1, 1):
            machine.step(thread)
        for worth in (3, 0, -2):
            self.assertIs(comes_to(machine, ("told", 0, worth)), True)
            self.assertIs(comes_to(machine, ("told", 1, worth)), False)
        self.assertIs(comes_to(machine, ("told", 0, 9)), False)
        self.assertIs(comes_to(machine, ("told", 1, 9)), True)
        self.assertIs(comes_to(machine, ("told", 1, 4)), False)

    def test_nothing_told(self):
        self.assertIs(comes_to(machine_of("tell 0"), ("told", 0, 0)), False)


class OwnTest(unittest.TestCase):
    def test_nothing_is_changed(self):
        machine = machine_of("tell 3; check 0", "take a, 0")
        machine.step(0)
        before = picture(machine, 2)
        for goal in (("falls", 0, 1), ("stuck",), ("cell", 0, 0), ("told", 0, 3)):
            comes_to(goal=goal, machine=machine)
        self.assertEqual(picture(machine, 2), before)


if __name__ == "__main__":
    unittest.main()
