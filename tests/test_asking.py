"""Promises 40 and 41: questions about a recording, beside its steps and machines gone through."""

import unittest

from replaytravel.asking import (
    changes,
    first_when,
    held_by,
    last_when,
    last_write,
    next_write,
    readers,
    rings_at,
    waits_at,
)
from replaytravel.errors import NoPlace, NoStep, NoTime
from replaytravel.recordings import Recording
from tests.helpers import anything, is_number_below, run_of
from tests.slow import WRITES, long_run, some_run


def recording_of(*threads, turns, inputs=None):
    return Recording(run_of(*threads, turns=turns, inputs=inputs))


def writes_slowly(run, cell):
    return [number for number, step in enumerate(run.steps()) if step[2] in WRITES and step[3][1] == cell]


def readers_slowly(run, number):
    """By the words: whose last write ahead is the step; which take has as many ahead as the send."""
    steps = run.steps()
    word, touch = steps[number][2:4]
    if word in WRITES:
        reading = [k for k in range(number + 1, len(steps)) if steps[k][2] in ("load", "swap") and steps[k][3] == touch]
        return [k for k in reading if [n for n in writes_slowly(run, touch[1]) if n < k][-1] == number]
    if word == "send":
        nth = [k for k in range(number) if steps[k][2:4] == ("send", touch)]
        takes = [k for k in range(len(steps)) if steps[k][2:4] == ("take", touch)]
        return takes[len(nth):][:1]
    return []


class QuestionsTest(unittest.TestCase):
    def asked(self, run, cells):
        recording, times = Recording(run), range(len(run) + 1)
        machines = [run.machine(time) for time in times]
        for cell in cells:
            writes = writes_slowly(run, cell)
            held = [machine.cell(cell) for machine in machines]
            self.assertEqual(changes(recording, cell), [
                (n, held[n], held[n + 1]) for n in range(len(run)) if held[n] != held[n + 1]])
            for time in times:
                self.assertEqual(last_write(recording, time, cell), max([n for n in writes if n < time], default=None))
                self.assertEqual(next_write(recording, time, cell), min([n for n in writes if n >= time], default=None))
                for worth in (0, 1, 2, held[-1]):
                    due = [t for t in times if held[t] == worth]
                    first, last = min([t for t in due if t >= time], default=None), max([t for t in due if t <= time], default=None)
                    self.assertEqual(first_when(recording, cell, worth, since=time), first)
                    self.assertEqual(last_when(recording, cell, worth, until=time), last)
        for number in range(len(run)):
            self.assertEqual(readers(recording, number), readers_slowly(run, number))
        self.asked_of_locks(run, recording, machines)

    def asked_of_locks(self, run, recording, machines):
        for time, machine in enumerate(machines):
            self.assertEqual(waits_at(recording, time), machine.waits())
            self.assertEqual(rings_at(recording, time), machine.rings())
            for lock in range(8):
                locked = [k for k in range(time) if run.steps()[k][2:4] == ("lock", ("lock", lock))]
                holder = machine.holder(lock)
                due = None if holder is None else (holder, locked[-1])
                self.assertEqual(held_by(recording, time, lock), due)

    def test_drawn_runs(self):
        for seed in range(48):
            with self.subTest(seed=seed):
                self.asked(some_run(seed, most=14), (0, 1, 63))

    def test_a_long_run(self):
        run = long_run(5, most=60)
        self.asked(run, (0, 1))

    def test_a_run_of_three_hundred(self):
        run = long_run(2)
        recording = Recording(run)
        for time in (0, 1, 150, 299, 300):
            for cell in (0, 1, 4, 40):
                writes = writes_slowly(run, cell)
                self.assertEqual(last_write(recording, time, cell), max([n for n in writes if n < time], default=None))
                self.assertEqual(next_write(recording, time, cell), min([n for n in writes if n >= time], default=None))
        for number in range(0, 300, 3):
            self.assertEqual(readers(recording, number), readers_slowly(run, number))
        self.asked_of_locks(run, recording, [run.machine(time) for time in range(20)])


class WritesTest(unittest.TestCase):
    def test_the_time_of_the_write_itself(self):
        recording = recording_of("tell 1; store 3, 5; tell 1; swap a, 3, 6; tell 1", turns="00000")
        self.assertEqual([last_write(recording, time, 3) for time in range(6)], [None, None, 1, 1, 3, 3])
        self.assertEqual([next_write(recording, time, 3) for time in range(6)], [1, 1, 3, 3, None, None])

    def test_never_written(self):
        recording = recording_of("load a, 3; store 4, 5", turns="00")
        for cell in (0, 3, 63):
            self.assertEqual([last_write(recording, time, cell) for time in range(3)], [None] * 3)
            self.assertEqual([next_write(recording, time, cell) for time in range(3)], [None] * 3)
            self.assertEqual(changes(recording, cell), [])

    def test_falls_write_nothing(self):
        recording = recording_of("store 64, 5", "swap a, -1, 3", "send 8, 1", turns="012")
        for cell in range(64):
            self.assertEqual((last_write(recording, 3, cell), next_write(recording, 0, cell)), (None, None))
        self.assertEqual([readers(recording, number) for number in range(3)], [[], [], []])

    def test_a_lock_or_line_is_no_cell(self):
        recording = recording_of("lock 3; free 3; send 3, 7; take a, 3", turns="0000")
        self.assertEqual((last_write(recording, 4, 3), next_write(recording, 0, 3), changes(recording, 3)), (None, None, []))

    def test_written_with_the_worth_that_it_held(self):
        recording = recording_of("store 0, 0; store 0, 4; store 0, 4; swap a, 0, 4; swap a, 0, -4; store 0, 0", turns="000000")
        self.assertEqual(changes(recording, 0), [(1, 0, 4), (4, 4, -4), (5, -4, 0)])
        self.assertEqual([last_write(recording, time, 0) for time in range(1, 7)], list(range(6)))

    def test_no_turns(self):
        recording = recording_of("store 0, 1", turns="")
        self.assertEqual((last_write(recording, 0, 0), next_write(recording, 0, 0), changes(recording, 0)), (None, None, []))
        self.assertEqual((first_when(recording, 0, 0), last_when(recording, 0, 0)), (0, 0))
        self.assertEqual((first_when(recording, 0, 1), last_when(recording, 0, 1)), (None, None))
        self.assertEqual((held_by(recording, 0, 0), waits_at(recording, 0), rings_at(recording, 0)), (None, [], []))


class WhenTest(unittest.TestCase):
    def setUp(self):
        # The cell holds 0 0 5 5 7 5.
        self.recording = recording_of("tell 1; store 0, 5; tell 1; swap a, 0, 7; store 0, 5", turns="00000")

    def test_left_out(self):
        self.assertEqual([first_when(self.recording, 0, worth) for worth in (0, 5, 7, 9)], [0, 2, 4, None])
        self.assertEqual([last_when(self.recording, 0, worth) for worth in (0, 5, 7, 9)], [1, 5, 4, None])
        self.assertEqual([last_when(self.recording, 0, worth, until=None) for worth in (0, 5, 7, 9)], [1, 5, 4, None])

    def test_told(self):
        self.assertEqual([first_when(self.recording, 0, 5, since=time) for time in range(6)], [2, 2, 2, 3, 5, 5])
        self.assertEqual([last_when(self.recording, 0, 5, until=time) for time in range(6)], [None, None, 2, 3, 3, 5])
        self.assertEqual([first_when(self.recording, 0, 0, since=time) for time in range(6)], [0, 1, None, None, None, None])
        self.assertEqual([last_when(self.recording, 0, 7, until=time) for time in range(6)], [None] * 4 + [4, 4])

    def test_other_cells_hold_0_all_the_time(self):
        self.assertEqual((first_when(self.recording, 9, 0, since=3), last_when(self.recording, 9, 0, until=3)), (3, 3))
        self.assertEqual((first_when(self.recording, 9, 5), last_when(self.recording, 9, 5)), (None, None))

    def test_since_and_until_by_name_alone(self):
        for asked in (first_when, last_when):
            with self.assertRaises(TypeError):
                asked(self.recording, 0, 5, 3)


class ReadersTest(unittest.TestCase):
    def test_a_cell(self):
        recording = recording_of("store 0, 1; load a, 0; swap b, 0, 2; load c, 0; load d, 1; store 0, 3", "load a, 0",
                                 turns="0010000")
        words = [step[2] for step in recording.run().steps()]
        self.assertEqual(words, ["store", "load", "load", "swap", "load", "load", "store"])
        self.assertEqual([readers(recording, number) for number in range(7)], [[1, 2, 3], [], [], [4], [], [], []])

    def test_lines(self):
        recording = recording_of("send 0, 5; send 0, 5; send 1, 5; send 0, 6", "take a, 0; take a, 1; take a, 0",
                                 turns="0001110")
        self.assertEqual([readers(recording, number) for number in range(7)], [[3], [5], [4], [], [], [], []])

    def test_a_send_that_is_never_taken(self):
        recording = recording_of("send 0, 5; send 0, 6", "take a, 0", turns="001")
        self.assertEqual([readers(recording, number) for number in range(3)], [[2], [], []])

    def test_other_steps(self):
        recording = recording_of("set a, 1; tell a; lock 0; free 0; input a; check 1; if 0, 0; go 8; load a, 0; check 0",
                                 turns="0" * 10, inputs=[[4]])
        self.assertEqual([readers(recording, number) for number in range(10)], [[]] * 10)


class HeldTest(unittest.TestCase):
    def test_freed_and_locked_again(self):
        recording = recording_of("lock 2; free 2; lock 2", "lock 2; free 2; free 2", turns="001101")
        self.assertEqual([held_by(recording, time, 2) for time in range(7)],
                         [None, (0, 0), None, (1, 2), None, (0, 4), (0, 4)])

    def test_a_fall_holds_what_it_holds(self):
        recording = recording_of("lock 0; free 1", "tell 1; lock 0", turns="001")
        self.assertEqual([held_by(recording, time, 0) for time in range(4)], [None, (0, 0), (0, 0), (0, 0)])
        self.assertEqual([held_by(recording, time, 1) for time in range(4)], [None] * 4)
        self.assertEqual(waits_at(recording, 2), [])
        self.assertEqual(waits_at(recording, 3), [(1, "lock", 0, 0)])

    def test_rings(self):
        recording = recording_of("lock 0; lock 1", "lock 1; lock 0", "take a, 3", turns="01")
        self.assertEqual([rings_at(recording, time) for time in range(3)], [[], [], [(0, 1)]])
        self.assertEqual(waits_at(recording, 0), [(2, "line", 3, None)])
        self.assertEqual(waits_at(recording, 2), [(0, "lock", 1, 1), (1, "lock", 0, 0), (2, "line", 3, None)])


class RefusedTest(unittest.TestCase):
    def setUp(self):
        self.recording = recording_of("lock 0; store 0, 1; load a, 0; free 0", turns="0000")

    def refused(self, refusal, asked, ask):
        with self.assertRaises(refusal) as caught:
            ask()
        self.assertIs(type(caught.exception), refusal)
        self.assertIs(caught.exception.asked, asked)

    def with_time(self):
        """Each question with a time, asked of a time and a place."""
        recording = self.recording
        return [
            (lambda time, place: last_write(recording, time, place), 64),
            (lambda time, place: next_write(recording, time, place), 64),
            (lambda time, place: first_when(recording, place, 1, since=time), 64),
            (lambda time, place: last_when(recording, place, 1, until=time), 64),
            (lambda time, place: held_by(recording, time, place), 8),
            (lambda time, place: waits_at(recording, time), None),
            (lambda time, place: rings_at(recording, time), None),
        ]

    def test_times_of_anything(self):
        for nth, (ask, many) in enumerate(self.with_time()):
            for thing in anything() + [5, -5, 4]:
                with self.subTest(nth=nth, kind=type(thing).__name__):
                    if is_number_below(thing, 5) or (nth == 3 and thing is None):
                        ask(thing, 0)
                    else:
                        self.refused(NoTime, thing, lambda: ask(thing, 0))

    def test_places_of_anything(self):
        asks = [(lambda place, ask=ask: ask(2, place), many) for ask, many in self.with_time() if many]
        asks.append((lambda place: changes(self.recording, place), 64))
        asks.append((lambda place: first_when(self.recording, place, 1), 64))
        asks.append((lambda place: last_when(self.recording, place, 1), 64))
        for nth, (ask, many) in enumerate(asks):
            for thing in anything() + [many - 1, many]:
                with self.subTest(nth=nth, kind=type(thing).__name__):
                    if is_number_below(thing, many):
                        ask(thing)
                    else:
                        self.refused(NoPlace, thing, lambda: ask(thing))

    def test_the_time_goes_ahead_of_the_place(self):
        for nth, (ask, many) in enumerate(self.with_time()):
            for time in (5, -1, True, "0", [0], (None,)):
                for place in (64, -1, None, "a"):
                    self.refused(NoTime, time, lambda: ask(time, place))
            if many:
                for time in (0, 4):
                    self.refused(NoPlace, many, lambda: ask(time, many))

    def test_numbers_of_anything(self):
        for thing in anything() + [3, 4, -4]:
            with self.subTest(kind=type(thing).__name__):
                if is_number_below(thing, 4):
                    readers(self.recording, thing)
                else:
                    self.refused(NoStep, thing, lambda: readers(self.recording, thing))
        self.refused(NoStep, 0, lambda: readers(recording_of("go 0", turns=""), 0))

    def test_since_that_is_none(self):
        self.refused(NoTime, None, lambda: first_when(self.recording, 0, 1, since=None))
        self.refused(NoTime, None, lambda: first_when(self.recording, 64, 1, since=None))
        self.refused(NoPlace, 64, lambda: last_when(self.recording, 64, 1, until=None))


class OwnTest(unittest.TestCase):
    def test_by_name(self):
        recording = recording_of("lock 0; store 0, 1; load a, 0; free 0", turns="0000")
        self.assertEqual(last_write(cell=0, time=3, recording=recording), 1)
        self.assertEqual(next_write(cell=0, time=1, recording=recording), 1)
        self.assertEqual(changes(cell=0, recording=recording), [(1, 0, 1)])
        self.assertEqual(first_when(since=1, worth=1, cell=0, recording=recording), 2)
        self.assertEqual(last_when(until=1, worth=0, cell=0, recording=recording), 1)
        self.assertEqual(readers(number=1, recording=recording), [2])
        self.assertEqual(held_by(lock=0, time=2, recording=recording), (0, 0))
        self.assertEqual(waits_at(time=2, recording=recording), [])
        self.assertEqual(rings_at(time=2, recording=recording), [])

    def test_lists_told_and_changed(self):
        recording = recording_of("store 0, 1; load a, 0; lock 0; lock 0", turns="000")
        asks = [lambda: changes(recording, 0), lambda: readers(recording, 0), lambda: waits_at(recording, 3),
                lambda: rings_at(recording, 3)]
        for ask in asks:
            before = repr(ask())
            told = ask()
            self.assertTrue(told)
            told.clear()
            self.assertEqual(repr(ask()), before)
        self.assertTrue(recording == recording_of("store 0, 1; load a, 0; lock 0; lock 0", turns="000"))


if __name__ == "__main__":
    unittest.main()
