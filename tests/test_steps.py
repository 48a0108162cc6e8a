"""Promises 11 and 12: the steps, their tuples, and all that they change."""

import unittest

from tests.helpers import changed, drawn, machine_of, picture

FALL = ("falls", None, None, None)


class StepsTest(unittest.TestCase):
    def does(self, ahead, row, step, changes, inputs=None, behind=""):
        """Does some rows, then one more: its tuple from the word on, and all that it changes."""
        machine = machine_of("", f"{ahead}; {row}; {behind}", inputs=[[], inputs or []])
        at = len([part for part in ahead.split(";") if part.strip()])
        for _ in range(at):
            machine.step(1)
        before = picture(machine, 2)
        told = machine.step(1)
        with self.subTest(row=row, ahead=ahead):
            self.assertIs(type(told), tuple)
            self.assertEqual(told, (1, at, *step))
            expected = changes if step[0] == "falls" else {("row", 1): at + 1, **changes}
            self.assertEqual(changed(before, picture(machine, 2)), expected)

    def falls(self, ahead, row, inputs=None):
        self.does(ahead, row, FALL, {("fallen", 1): True}, inputs)

    def test_set(self):
        self.does("", "set a, 5", ("set", None, 5, None), {("a", 1): 5})
        self.does("set a, 5", "set a, a 1 +", ("set", None, 6, None), {("a", 1): 6})
        self.does("set a, 5", "set p, a", ("set", None, 5, None), {("p", 1): 5})
        self.does("", "set a, 0", ("set", None, 0, None), {})
        self.does("", "set a, 32767 1 +", ("set", None, -32768, None), {("a", 1): -32768})

    def test_load(self):
        for n in (0, 1, 62, 63):
            self.does(f"store {n}, -7", f"load b, {n}", ("load", ("cell", n), -7, None), {("b", 1): -7})
            self.does("", f"load b, {n}", ("load", ("cell", n), 0, None), {})

    def test_load_where_the_number_is_of_the_same_letter(self):
        self.does("store 4, 9; set a, 4", "load a, a", ("load", ("cell", 4), 9, None), {("a", 1): 9})

    def test_store(self):
        for n in (0, 1, 62, 63):
            self.does("", f"store {n}, 5", ("store", ("cell", n), None, 5), {("cell", n): 5})
            self.does(f"store {n}, 5", f"store {n}, 0", ("store", ("cell", n), None, 0), {("cell", n): 0})
        self.does("set a, 3", "store a, a 1 +", ("store", ("cell", 3), None, 4), {("cell", 3): 4})

    def test_swap(self):
        for n in (0, 1, 62, 63):
            self.does(f"store {n}, 5", f"swap a, {n}, 6", ("swap", ("cell", n), 5, 6), {("cell", n): 6, ("a", 1): 5})
        self.does("", "swap a, 2, 0", ("swap", ("cell", 2), 0, 0), {})

    def test_swap_where_both_name_its_letter(self):
        self.does("store 3, 7; set a, 3", "swap a, a, a 1 +", ("swap", ("cell", 3), 7, 4),
                  {("cell", 3): 4, ("a", 1): 7})
        self.does("set a, 63", "swap a, a, a", ("swap", ("cell", 63), 0, 63), {("cell", 63): 63, ("a", 1): 0})

    def test_lock(self):
        for n in (0, 1, 6, 7):
            self.does("", f"lock {n}", ("lock", ("lock", n), None, None), {("lock", n): 1})
            self.does(f"lock {n}; free {n}", f"lock {n}", ("lock", ("lock", n), None, None), {("lock", n): 1})

    def test_free(self):
        for n in (0, 1, 6, 7):
            self.does(f"lock {n}", f"free {n}", ("free", ("lock", n), None, None), {("lock", n): None})
        self.does("lock 1; lock 2", "free 1", ("free", ("lock", 1), None, None), {("lock", 1): None})

    def test_send(self):
        for n in (0, 1, 6, 7):
            self.does("", f"send {n}, 5", ("send", ("line", n), None, 5), {("line", n): [5]})
            self.does(f"send {n}, 4", f"send {n}, 0", ("send", ("line", n), None, 0), {("line", n): [4, 0]})
        self.does("set a, 3", "send a, a 1 -", ("send", ("line", 3), None, 2), {("line", 3): [2]})

    def test_take(self):
        for n in (0, 1, 6, 7):
            self.does(f"send {n}, 5", f"take b, {n}", ("take", ("line", n), 5, None), {("line", n): [], ("b", 1): 5})
            self.does(f"send {n}, 5; send {n}, 6; send {n}, 5", f"take b, {n}", ("take", ("line", n), 5, None),
                      {("line", n): [6, 5], ("b", 1): 5})
        self.does("send 0, 0", "take b, 0", ("take", ("line", 0), 0, None), {("line", 0): []})
        self.does("send 2, 9; set a, 2", "take a, a", ("take", ("line", 2), 9, None), {("line", 2): [], ("a", 1): 9})

    def test_input(self):
        self.does("", "input a", ("input", None, 8, None), {("a", 1): 8, ("left", 1): 1}, [8, 9])
        self.does("input a", "input a", ("input", None, 9, None), {("a", 1): 9, ("left", 1): 0}, [8, 9])
        self.does("", "input a", ("input", None, 0, None), {("left", 1): 0}, [0])

    def test_tell(self):
        self.does("", "tell 5", ("tell", None, None, 5), {("told", 1): [5]})
        self.does("tell 5; set c, 3", "tell c 3 -", ("tell", None, None, 0), {("told", 1): [5, 0]})

    def test_check(self):
        for e in ("1", "-1", "32767", "-32768", "2 1 -"):
            self.does("", f"check {e}", ("check", None, None, None), {})
        self.does("set a, 2", "check a", ("check", None, None, None), {})

    def test_if(self):
        step = ("if", None, None, None)
        for e in ("1", "-1", "-32768"):
            self.does("set a, 1", f"if {e}, 0", step, {("row", 1): 0})
            self.does("set a, 1", f"if {e}, 3", step, {("row", 1): 3}, behind="tell 1")
            machine = machine_of(f"if {e}, 0")
            self.assertEqual((machine.step(0), machine.row(0)), ((0, 0, *step), 0))
        self.does("set a, 1", "if 0, 0", step, {})
        self.does("set a, 1", "if b, 0", step, {})
        self.does("set a, 1", "if a, 0", step, {("row", 1): 0})
        self.does("set a, 1", "if 0, 3", step, {("row", 1): 2}, behind="tell 1")

    def test_go(self):
        step = ("go", None, None, None)
        self.does("set a, 1", "go 0", step, {("row", 1): 0})
        self.does("set a, 1", "go 3", step, {("row", 1): 3}, behind="tell 1")
        self.does("set a, 1", "go 2", step, {("row", 1): 2}, behind="tell 1")
        machine = machine_of("go 0")
        self.assertEqual((machine.step(0), machine.row(0), machine.word(0)), ((0, 0, *step), 0, "ready"))

    def test_a_check_falls(self):
        for e in ("0", "a", "1 1 -", "2 1 <", "5 0 /", "5 0 #", "256 256 *"):
            self.falls("", f"check {e}")

    def test_numbers_of_cells_that_are_none(self):
        for n in (-1, 64, 65, 32767, -32768):
            for row in (f"load a, {n}", f"store {n}, 5", f"swap a, {n}, 5"):
                self.falls("set a, 3", row)

    def test_numbers_of_locks_that_are_none(self):
        for n in (-1, 8, 9, 32767, -32768):
            for row in (f"lock {n}", f"free {n}"):
                self.falls("lock 0; lock 7", row)

    def test_numbers_of_lines_that_are_none(self):
        for n in (-1, 8, 9, 32767, -32768):
            for row in (f"send {n}, 1", f"take a, {n}"):
                self.falls("send 0, 4; send 7, 5", row)

    def test_frees_what_it_does_not_hold(self):
        self.falls("", "free 0")
        self.falls("lock 1", "free 0")
        self.falls("lock 0; free 0", "free 0")
        machine = machine_of("lock 0", "free 0")
        machine.step(0)
        self.assertEqual(machine.step(1), (1, 0, *FALL))
        self.assertEqual(machine.holder(0), 0)
        machine = machine_of("free 0", "lock 0")
        machine.step(1)
        self.assertEqual(machine.step(0), (0, 0, *FALL))
        self.assertEqual(machine.holder(0), 1)

    def test_no_input_is_left(self):
        self.falls("", "input a")
        self.falls("set a, 4", "input a")
        self.falls("input a; input a", "input b", [1, 2])
        machine = machine_of("input a", "input a", inputs=[[1], []])
        self.assertEqual(machine.step(1), (1, 0, *FALL))
        self.assertEqual(machine.step(0), (0, 0, "input", None, 1, None))

    def test_who_falls_holds_what_it_holds(self):
        machine = machine_of("lock 2; set a, 5; tell 6; check 0; free 2", "lock 2")
        for _ in range(4):
            machine.step(0)
        self.assertEqual((machine.holder(2), machine.worth(0, "a"), machine.told(0), machine.row(0)), (0, 5, [6], 3))
        self.assertEqual((machine.word(0), machine.word(1), machine.end()), ("fallen", "waits", "stuck"))

    def test_who_ends_holds_what_it_holds(self):
        machine = machine_of("lock 2", "lock 2")
        machine.step(0)
        self.assertEqual((machine.word(0), machine.holder(2), machine.word(1)), ("ended", 0, "waits"))

    def test_lines_are_first_in_first_out_among_threads(self):
        machine = machine_of("send 0, 1; send 0, 2", "send 0, 3", "take a, 0; take b, 0; take c, 0")
        for thread in (0, 1, 0, 2, 2, 2):
            machine.step(thread)
        self.assertEqual([machine.worth(2, letter) for letter in "abc"], [1, 3, 2])

    def test_the_number_of_the_thread_is_its_own(self):
        machine = machine_of("tell 1", "tell 2", "tell 3", "tell 4")
        self.assertEqual([machine.step(thread) for thread in (3, 1, 0, 2)],
                         [(3, 0, "tell", None, None, 4), (1, 0, "tell", None, None, 2),
                          (0, 0, "tell", None, None, 1), (2, 0, "tell", None, None, 3)])

    def test_only_its_own_letters_change(self):
        machine = machine_of("set a, 1; load b, 0; swap c, 0, 1; input d; take e, 0", "send 0, 3", inputs=[[4], []])
        machine.step(1)
        for _ in range(5):
            machine.step(0)
        self.assertEqual([machine.worth(1, letter) for letter in "abcde"], [0] * 5)

    def test_kinds_of_the_tuple(self):
        threads = ("load a, 0; store 0, a 1 +; lock 0; send 1, a; free 0; if a 2 <, 0; check a 3 <; tell a",
                   "swap b, 0, 2; lock 0; take c, 1; free 0; input d; tell c; go 0", "set a, a 1 +; go 0")
        words = set()
        for seed in range(20):
            machine = machine_of(*threads, inputs=[[], [5] * (seed % 2), []])
            for number in drawn(seed, 60):
                ready = machine.ready()
                thread = ready[number % len(ready)]
                at = machine.row(thread)
                step = machine.step(thread)
                words.add(step[2])
                self.assertEqual((type(step), len(step), step[:2]), (tuple, 6, (thread, at)))
                self.assertTrue(step[3] is None or type(step[3]) is tuple and len(step[3]) == 2)
                self.assertEqual(step[4] is not None, step[2] in ("set", "load", "swap", "take", "input"))
                self.assertEqual(step[5] is not None, step[2] in ("store", "swap", "send", "tell"))
                touches = {"load": "cell", "store": "cell", "swap": "cell", "lock": "lock", "free": "lock",
                           "send": "line", "take": "line"}
                self.assertEqual(step[3] and step[3][0], touches.get(step[2]))
        self.assertEqual(len(words), 14, sorted(words))


if __name__ == "__main__":
    unittest.main()
