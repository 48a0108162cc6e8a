"""Promises 10 and 13: what threads are, ends, waits, rings, states."""

import unittest

from replaytravel.machine import Machine
from tests.helpers import changed, drawn, machine_of, picture


def words(machine, many):
    return [machine.word(thread) for thread in range(many)]


def stepped(machine, *turns):
    for thread in turns:
        machine.step(thread)
    return machine


class WordsTest(unittest.TestCase):
    def test_ended(self):
        machine = machine_of("", "set a, 1", "go 1", "if 1, 1")
        self.assertEqual(words(machine, 4), ["ended", "ready", "ready", "ready"])
        stepped(machine, 1, 2, 3)
        self.assertEqual(words(machine, 4), ["ended"] * 4)
        self.assertEqual(machine.ready(), [])

    def test_fallen(self):
        machine = stepped(machine_of("check 0", "input a", "free 0", "load a, -1"), 0, 1, 2, 3)
        self.assertEqual(words(machine, 4), ["fallen"] * 4)
        self.assertEqual(machine.ready(), [])

    def test_waits_for_a_lock(self):
        machine = machine_of("lock 0; free 0", "lock a")
        self.assertEqual(words(machine, 2), ["ready", "ready"])
        stepped(machine, 0)
        self.assertEqual(words(machine, 2), ["ready", "waits"])
        self.assertEqual(machine.ready(), [0])
        stepped(machine, 0)
        self.assertEqual(words(machine, 2), ["ended", "ready"])

    def test_waits_for_a_lock_of_its_own(self):
        machine = stepped(machine_of("lock 3; lock 3"), 0)
        self.assertEqual(words(machine, 1), ["waits"])
        self.assertEqual(machine.waits(), [(0, "lock", 3, 0)])
        self.assertEqual(machine.rings(), [(0,)])

    def test_other_locks_are_free(self):
        machine = stepped(machine_of("lock 3; lock 4", "lock 5"), 0)
        self.assertEqual(words(machine, 2), ["ready", "ready"])

    def test_waits_for_a_line(self):
        machine = machine_of("take a, 1; take a, 1", "send 0, 5; send 1, 5")
        self.assertEqual(words(machine, 2), ["waits", "ready"])
        stepped(machine, 1)
        self.assertEqual(words(machine, 2), ["waits", "ready"])
        stepped(machine, 1)
        self.assertEqual(words(machine, 2), ["ready", "ended"])
        stepped(machine, 0)
        self.assertEqual(words(machine, 2), ["waits", "ended"])

    def test_where_the_number_is_none_it_is_ready_and_falls(self):
        for number in (-1, 8, -32768, 32767):
            for row in (f"lock {number}", f"take a, {number}"):
                machine = machine_of(row)
                with self.subTest(row=row):
                    self.assertEqual((words(machine, 1), machine.ready()), (["ready"], [0]))
                    self.assertEqual(machine.waits(), [])
                    self.assertEqual(machine.step(0), (0, 0, "falls", None, None, None))

    def test_the_other_words_never_wait(self):
        machine = stepped(machine_of("lock 0", "free 0", "send 0, 1", "load a, 0"), 0)
        self.assertEqual(words(machine, 4), ["ended", "ready", "ready", "ready"])

    def test_the_number_is_reckoned(self):
        machine = stepped(machine_of("lock 2", "set a, 1; lock a 1 +"), 0, 1)
        self.assertEqual(words(machine, 2), ["ended", "waits"])
        self.assertEqual(machine.waits(), [(1, "lock", 2, 0)])

    def test_ready_rises(self):
        machine = machine_of("go 0", "take a, 0", "go 0", "go 0")
        self.assertEqual(machine.ready(), [0, 2, 3])

    def test_going_somewhat_beyond_the_end(self):
        machine = Machine(((("go", 3),),), [[]])
        machine.step(0)
        self.assertEqual((words(machine, 1), machine.end()), (["ended"], "over"))


class EndTest(unittest.TestCase):
    def test_none_while_some_thread_is_ready(self):
        self.assertIsNone(machine_of("go 0").end())
        self.assertIsNone(machine_of("", "take a, 0", "go 0").end())

    def test_over(self):
        self.assertEqual(machine_of("").end(), "over")
        machine = machine_of("check 0", "set a, 1")
        stepped(machine, 0)
        self.assertIsNone(machine.end())
        stepped(machine, 1)
        self.assertEqual(machine.end(), "over")

    def test_stuck(self):
        self.assertEqual(machine_of("take a, 0").end(), "stuck")
        self.assertEqual(machine_of("take a, 0", "").end(), "stuck")
        self.assertEqual(machine_of("", "take a, 0").end(), "stuck")
        self.assertEqual(stepped(machine_of("lock 0", "lock 0", "check 0"), 0, 2).end(), "stuck")


class WaitsTest(unittest.TestCase):
    def test_none(self):
        self.assertEqual(machine_of("go 0", "").waits(), [])

    def test_locks_and_lines_rising(self):
        machine = stepped(machine_of("take a, 7", "lock 0", "take b, 2", "lock 0"), 1)
        self.assertEqual(machine.waits(), [(0, "line", 7, None), (2, "line", 2, None), (3, "lock", 0, 1)])

    def test_who_fell_or_ended_waits_for_nothing(self):
        machine = stepped(machine_of("lock 0; free 1", "lock 0"), 0, 0)
        self.assertEqual(words(machine, 2), ["fallen", "waits"])
        self.assertEqual(machine.waits(), [(1, "lock", 0, 0)])
        self.assertEqual(machine.rings(), [])


class RingsTest(unittest.TestCase):
    def test_none(self):
        self.assertEqual(machine_of("take a, 0", "take a, 1").rings(), [])
        self.assertEqual(stepped(machine_of("lock 0", "lock 0"), 0).rings(), [])

    def test_of_two(self):
        machine = machine_of("lock 0; lock 1", "lock 1; lock 0")
        stepped(machine, 0)
        self.assertEqual(machine.rings(), [])
        stepped(machine, 1)
        self.assertEqual(machine.waits(), [(0, "lock", 1, 1), (1, "lock", 0, 0)])
        self.assertEqual(machine.rings(), [(0, 1)])
        self.assertEqual(machine.end(), "stuck")

    def test_of_three_either_way_round(self):
        machine = stepped(machine_of("lock 0; lock 1", "lock 1; lock 2", "lock 2; lock 0"), 0, 1, 2)
        self.assertEqual(machine.rings(), [(0, 1, 2)])
        machine = stepped(machine_of("lock 0; lock 2", "lock 1; lock 0", "lock 2; lock 1"), 0, 1, 2)
        self.assertEqual(machine.rings(), [(0, 2, 1)])

    def test_of_four(self):
        machine = machine_of("lock 0; lock 2", "lock 1; lock 3", "lock 2; lock 1", "lock 3; lock 0")
        self.assertEqual(stepped(machine, 0, 1, 2, 3).rings(), [(0, 2, 1, 3)])

    def test_without_the_first_thread(self):
        machine = stepped(machine_of("", "lock 1; lock 2", "lock 2; lock 1"), 1, 2)
        self.assertEqual(machine.rings(), [(1, 2)])

    def test_two_at_once(self):
        machine = machine_of("lock 0; lock 3", "lock 1; lock 2", "lock 2; lock 1", "lock 3; lock 0")
        self.assertEqual(stepped(machine, 0, 1, 2, 3).rings(), [(0, 3), (1, 2)])
        machine = machine_of("lock 0; lock 0", "lock 1; lock 1")
        self.assertEqual(stepped(machine, 1, 0).rings(), [(0,), (1,)])

    def test_who_waits_for_a_ring_is_not_in_it(self):
        machine = machine_of("lock 0", "lock 0; lock 1", "lock 1; lock 0", "lock 0")
        self.assertEqual(stepped(machine, 1, 2).rings(), [(1, 2)])
        machine = machine_of("lock 0; lock 1", "lock 1; lock 0", "lock 1")
        self.assertEqual(stepped(machine, 0, 1).rings(), [(0, 1)])

    def test_one_that_is_ready_breaks_it(self):
        machine = stepped(machine_of("lock 0; lock 1", "lock 1; set a, 1; lock 0"), 0, 1)
        self.assertEqual(machine.rings(), [])
        self.assertEqual(stepped(machine, 1).rings(), [(0, 1)])


class StateTest(unittest.TestCase):
    def test_a_text_of_plain_signs(self):
        machine = stepped(machine_of("lock 0; send 1, -5; tell -32768; free 1"), 0, 0, 0, 0)
        state = machine.state()
        self.assertIs(type(state), str)
        self.assertTrue(all(sign == "\n" or " " <= sign <= "~" and sign != "%" for sign in state))

    def test_each_thing_alone_makes_another_state(self):
        for row in ("store 0, 1", "store 63, 1", "set a, 1", "set p, 1", "lock 0", "lock 7", "send 0, 0", "send 7, 0",
                    "tell 0", "input a"):
            machine = machine_of(row + "; go 0", inputs=[[0]])
            first, before = machine.state(), picture(machine, 1)
            stepped(machine, 0, 0)
            with self.subTest(row=row):
                self.assertEqual(len(changed(before, picture(machine, 1))), 1)
                self.assertNotEqual(machine.state(), first)
        for row in ("check 1", "check 0"):
            machine = machine_of(row)
            first = machine.state()
            with self.subTest(row=row):
                self.assertNotEqual(stepped(machine, 0).state(), first)

    def unlike(self, threads, *rows_of_turns):
        inputs = [[0, 0] for _ in threads]
        states = [stepped(machine_of(*threads, inputs=inputs), *turns).state() for turns in rows_of_turns]
        self.assertEqual(len(set(states)), len(rows_of_turns))

    def test_whose_it_is_counts(self):
        for row in ("set a, 1", "tell 0", "input a", "lock 0"):
            with self.subTest(row=row):
                self.unlike([row + "; go 0"] * 2, (0, 0), (1, 1))
        for row in ("check 1", "check 0"):
            with self.subTest(row=row):
                self.unlike([row] * 2, (0,), (1,))

    def test_where_it_is_counts(self):
        # The second thread chooses by cell 0 what the first one does, and wipes this out again.
        for rows, unlike in (("store a 1 +, 5", 2), ("store 1, a", 1), ("send a 1 +, 5", 2), ("send 1, a", 1),
                             ("lock a 1 +", 2), ("tell a 12 *", 1), ("send a 1 +, 1; send 2 a -, 1", 0),
                             ("tell 1; tell a", 1), ("send 1, a; send 1, 1 a -", 1),
                             ("if a, 4; set b, 5; go 5; set c, 5", 2), ("if a, 5; tell 1; tell 2; go 6; tell 12", 1),
                             ("if a, 4; tell -1; go 5; tell 1", 1), ("if a, 3; check 1", 0)):
            threads = [f"load a, 0; {rows}; set a, 0", "store 0, 1; store 0, 0"]
            one, other = machine_of(*threads), machine_of(*threads)
            stepped(other, 1, 0, 1)
            for machine in (one, other):
                while machine.ready():
                    machine.step(machine.ready()[0])
            with self.subTest(rows=rows):
                self.assertEqual(len(changed(picture(one, 2), picture(other, 2))), unlike)
                self.assertEqual(one.state() == other.state(), unlike == 0)
                self.assertEqual(one == other, unlike == 0)

    def test_the_same_just_where_all_is_alike(self):
        threads = ("load a, 0; store 0, a 1 +; lock 0; send 1, a; free 0; if a 2 <, 0; check a 3 <; tell a",
                   "swap b, 0, 2; lock 0; take c, 1; free 0; input d; tell c; go 0",
                   "set a, a 1 +; if a 3 <, 0; store 0, 0; tell 0")
        seen = {}
        for seed in range(60):
            machine = machine_of(*threads, inputs=[[], [5, 5], []])
            for number in drawn(seed, 40):
                told = repr(sorted(picture(machine, 3).items()))
                self.assertEqual(seen.setdefault(machine.state(), told), told)
                if not machine.ready():
                    break
                machine.step(machine.ready()[number % len(machine.ready())])
        self.assertEqual(len(set(seen.values())), len(seen))
        self.assertTrue(len(seen) > 100)


if __name__ == "__main__":
    unittest.main()
