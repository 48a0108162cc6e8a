"""Promises 38 and 39: travelling to and fro in a recording, and looking at times."""

import unittest

from replaytravel.errors import NoTime
from replaytravel.machine import Machine
from replaytravel.recordings import Recording
from replaytravel.recordingtexts import read_recording, show_recording
from replaytravel.traveller import Traveller
from tests.helpers import anything, is_number_below, run_of
from tests.slow import long_run, some_run
from tests.test_kept import HEFTS


class Refused(Exception):
    """What a def handed in refuses with, here."""


class Seen:
    """A def that writes down what it is called with, and refuses at a told call."""

    def __init__(self):
        self.rows, self.refuse_at = [], None

    def __call__(self, thread, row):
        if len(self.rows) == self.refuse_at:
            raise Refused(thread, row)
        self.rows.append((thread, row))

    def taken(self):
        rows, self.rows = self.rows, []
        return rows


def travelled(recording):
    seen = Seen()
    return Traveller(recording, seen=seen), seen


def due_from(recording, own, time):
    """The time from which steps are redone."""
    kept = max([other for other in recording.kept() if other <= time])
    return own if kept <= own <= time else kept


def rows_of(recording, since, time):
    return [step[:2] for step in recording.run().steps()[since:time]]


class GoTest(unittest.TestCase):
    def gone(self, recording, times):
        """Goes to the times one behind the other; all that is told and redone is looked at."""
        run = recording.run()
        machines, hefts = [run.machine(time) for time in range(len(run) + 1)], [HEFTS[step[2]] for step in run.steps()]
        traveller, seen = travelled(recording)
        self.assertEqual((traveller.at(), seen.taken()), (0, []))
        self.assertTrue(traveller.now() == machines[0])
        own = 0
        for time in times:
            told = traveller.go(time)
            since = due_from(recording, own, time)
            self.assertEqual((told, traveller.at(), seen.taken()), (time, time, rows_of(recording, since, time)))
            self.assertTrue(sum(hefts[since:time]) <= recording.bound())
            self.assertTrue(traveller.now() == machines[time])
            own = time

    def test_from_each_time_to_each_other_one(self):
        for seed in range(24):
            run = some_run(seed, most=10)
            for bound in (0, 3, 7, 60):
                recording = Recording(run, bound=bound)
                times = [time for one in range(len(run) + 1) for other in range(len(run) + 1) for time in (one, other)]
                with self.subTest(seed=seed, bound=bound):
                    self.gone(recording, times)

    def test_a_long_run(self):
        for bound in (0, 20, 60, 999999999):
            recording = Recording(long_run(4), bound=bound)
            many = len(recording.run())
            jumps = [(k * 97) % (many + 1) for k in range(160)]
            self.gone(recording, [*jumps, many, 0, many, *range(many, -1, -9), *range(0, many, 7)])

    def test_from_the_own_time_or_the_last_kept_one(self):
        recording = Recording(run_of("tell 1; tell 2; tell 3; tell 4; tell 5; tell 6", turns="000000"), bound=3)
        self.assertEqual(len(recording.kept()), 2)
        kept = recording.kept()[1]
        traveller, seen = travelled(recording)
        for time, since in ((kept - 1, 0), (kept, kept), (6, kept), (6, 6), (kept + 1, kept), (6, kept + 1), (0, 0),
                            (6, kept), (kept - 1, 0), (1, 0), (kept - 1, 1)):
            traveller.go(time)
            self.assertEqual(seen.taken(), [(0, row) for row in range(since, time)])

    def test_the_kept_times_that_were_read(self):
        text = show_recording(Recording(run_of("tell 1; tell 2; tell 3", turns="000"), bound=2)).rpartition("\n")[0]
        for kept in (1, 2, 3):
            recording = read_recording(f"{text}\nkept 0 {kept}")
            traveller, seen = travelled(recording)
            for time in (3, 0, 2, 1, 3, 2):
                own = traveller.at()
                traveller.go(time)
                self.assertEqual(seen.taken(), rows_of(recording, due_from(recording, own, time), time))

    def test_falls_and_all_words(self):
        run = run_of("set a, 1; store 0, a; lock 0; send 0, 5; input b; check 0", "load a, 0; take b, 0; free 0",
                     turns="000001110", inputs=[[8], []])
        recording = Recording(run, bound=6)
        self.gone(recording, [9, 3, 0, 8, 9, 4, 5, 1, 7, 2, 6, 9])

    def test_without_a_def(self):
        traveller = Traveller(Recording(some_run(3)))
        self.assertEqual(traveller.go(2), 2)
        self.assertEqual(Traveller(Recording(some_run(3)), seen=None).go(2), 2)

    def test_seen_by_name_alone(self):
        with self.assertRaises(TypeError):
            Traveller(Recording(some_run(3)), Seen())

    def test_times_of_anything(self):
        recording = Recording(run_of("tell 1; tell 2", turns="00"))
        for own in (0, 1, 2):
            traveller, seen = travelled(recording)
            traveller.go(own)
            seen.taken()
            for thing in anything() + [3, -2]:
                with self.subTest(own=own, kind=type(thing).__name__):
                    if is_number_below(thing, 3):
                        continue
                    for ask in (traveller.go, lambda time: traveller.look(time, lambda machine: self.fail())):
                        with self.assertRaises(NoTime) as caught:
                            ask(thing)
                        self.assertIs(type(caught.exception), NoTime)
                        self.assertIs(caught.exception.asked, thing)
                        self.assertEqual((traveller.at(), seen.taken()), (own, []))
                        self.assertTrue(traveller.now() == recording.run().machine(own))


class OnAndBackTest(unittest.TestCase):
    def no_time(self, traveller, asked, ask):
        own, before = traveller.at(), traveller.now()
        with self.assertRaises(NoTime) as caught:
            ask()
        self.assertIs(type(caught.exception), NoTime)
        self.assertEqual(caught.exception.asked, asked)
        self.assertEqual(traveller.at(), own)
        self.assertTrue(traveller.now() == before)

    def test_all_the_way(self):
        for bound in (0, 5, 60):
            recording = Recording(some_run(7, most=12), bound=bound)
            run, many = recording.run(), len(recording.run())
            self.assertTrue(many > 3)
            traveller, seen = travelled(recording)
            self.no_time(traveller, -1, traveller.back)
            for time in range(1, many + 1):
                self.assertEqual(traveller.on(), time)
                self.assertTrue(traveller.now() == run.machine(time))
                self.assertEqual(seen.taken(), rows_of(recording, due_from(recording, time - 1, time), time))
            self.no_time(traveller, many + 1, traveller.on)
            for time in range(many - 1, -1, -1):
                self.assertEqual(traveller.back(), time)
                self.assertTrue(traveller.now() == run.machine(time))
                self.assertEqual(seen.taken(), rows_of(recording, due_from(recording, time + 1, time), time))
            self.no_time(traveller, -1, traveller.back)
            self.assertEqual(seen.taken(), [])

    def test_no_turns(self):
        traveller = Traveller(Recording(run_of("go 0", turns="")))
        self.no_time(traveller, 1, traveller.on)
        self.no_time(traveller, -1, traveller.back)
        self.assertEqual(traveller.go(0), 0)


class RowsTest(unittest.TestCase):
    def no_time(self, traveller, ask, thread, row):
        own = traveller.at()
        with self.assertRaises(NoTime) as caught:
            ask(thread, row)
        self.assertIs(type(caught.exception), NoTime)
        self.assertIs(caught.exception.asked, None)
        self.assertEqual(traveller.at(), own)

    def test_beside_the_steps(self):
        for seed in range(30):
            recording = Recording(some_run(seed, most=14), bound=7)
            run = recording.run()
            steps = run.steps()
            for own in range(len(run) + 1):
                for thread in range(3):
                    for row in range(7):
                        traveller, seen = travelled(recording)
                        traveller.go(own)
                        seen.taken()
                        times = [time for time, step in enumerate(steps) if step[:2] == (thread, row)]
                        self.one(recording, traveller, seen, traveller.to_next, [t for t in times if t > own][:1], thread, row)
                        traveller.go(own)
                        seen.taken()
                        self.one(recording, traveller, seen, traveller.to_last, [t for t in times if t < own][-1:], thread, row)

    def one(self, recording, traveller, seen, ask, due, thread, row):
        own = traveller.at()
        if not due:
            self.no_time(traveller, ask, thread, row)
            self.assertEqual(seen.taken(), [])
            return
        self.assertEqual((ask(thread, row), traveller.at()), (due[0], due[0]))
        self.assertEqual(seen.taken(), rows_of(recording, due_from(recording, own, due[0]), due[0]))
        self.assertEqual(traveller.now().row(thread), row)

    def test_rows_that_come_again(self):
        recording = Recording(run_of("tell 1; go 0", "go 0", turns="001010"))
        traveller = Traveller(recording)
        self.assertEqual([traveller.to_next(0, 0), traveller.to_next(0, 1)], [3, 5])
        self.no_time(traveller, traveller.to_next, 0, 0)
        self.assertEqual([traveller.to_last(1, 0), traveller.to_last(1, 0), traveller.to_last(0, 0)], [4, 2, 0])
        self.no_time(traveller, traveller.to_last, 0, 0)

    def test_a_step_at_its_own_time(self):
        traveller = Traveller(Recording(run_of("tell 1; tell 2", turns="00")))
        self.no_time(traveller, traveller.to_next, 0, 0)
        self.no_time(traveller, traveller.to_last, 0, 0)
        self.assertEqual(traveller.to_next(0, 1), 1)
        self.no_time(traveller, traveller.to_next, 0, 1)
        self.no_time(traveller, traveller.to_last, 0, 1)
        traveller.go(2)
        self.assertEqual(traveller.to_last(0, 1), 1)

    def test_a_fall_is_a_step_too(self):
        traveller = Traveller(Recording(run_of("tell 1; check 0", turns="00")))
        self.assertEqual(traveller.to_next(0, 1), 1)

    def test_threads_and_rows_that_there_are_not(self):
        traveller = Traveller(Recording(run_of("tell 1; tell 2", turns="00")))
        for thread, row in ((0, 2), (0, -1), (1, 0), (-1, 0), (0, 10 ** 30)):
            self.no_time(traveller, traveller.to_next, thread, row)
            self.no_time(traveller, traveller.to_last, thread, row)

    def test_by_name(self):
        traveller = Traveller(seen=None, recording=Recording(run_of("tell 1; tell 2; tell 3", turns="000")))
        self.assertEqual(traveller.to_next(row=2, thread=0), 2)
        self.assertEqual(traveller.to_last(row=1, thread=0), 1)
        self.assertEqual(traveller.go(time=3), 3)
        self.assertEqual(traveller.look(asked=lambda machine: machine.told(0), time=1), [1])


class LookTest(unittest.TestCase):
    def test_what_the_def_tells(self):
        for seed in range(20):
            for bound in (0, 6, 60):
                recording = Recording(some_run(seed, most=9), bound=bound)
                run = recording.run()
                traveller, seen = travelled(recording)
                for own in range(len(run) + 1):
                    traveller.go(own)
                    seen.taken()
                    for time in range(len(run) + 1):
                        told = traveller.look(time, lambda machine: (type(machine), machine.state()))
                        self.assertEqual(told, (Machine, run.machine(time).state()))
                        self.assertEqual(seen.taken(), rows_of(recording, due_from(recording, own, time), time))
                        self.assertEqual(traveller.at(), own)
                        self.assertTrue(traveller.now() == run.machine(own))
                        self.assertEqual(seen.taken(), [])

    def test_whatever_it_tells(self):
        traveller = Traveller(Recording(run_of("tell 1; tell 2", turns="00")))
        thing = object()
        self.assertIs(traveller.look(1, lambda machine: thing), thing)
        self.assertIs(traveller.look(1, lambda machine: None), None)

    def test_the_machine_is_the_askers(self):
        recording = Recording(run_of("tell 1; tell 2", turns="00"))
        traveller = Traveller(recording)
        for own in (0, 1):
            traveller.go(own)
            for time in (0, 1):
                traveller.look(time, lambda machine: machine.step(0))
                self.assertTrue(traveller.now() == recording.run().machine(own))
                held = traveller.look(time, lambda machine: machine)
                self.assertTrue(held == recording.run().machine(time))
                held.step(0)
                self.assertTrue(traveller.look(time, lambda machine: machine) == recording.run().machine(time))

    def test_now_is_the_askers(self):
        recording = Recording(run_of("tell 1; tell 2", turns="00"), bound=0)
        traveller = Traveller(recording)
        for time in (0, 1, 0, 1):
            traveller.go(time)
            now = traveller.now()
            now.step(0)
            self.assertTrue(traveller.now() == recording.run().machine(time))
        kept = traveller.now()
        traveller.go(2)
        self.assertTrue(kept == recording.run().machine(1))


class RefusedTest(unittest.TestCase):
    def setUp(self):
        self.recording = Recording(run_of("tell 1; tell 2; tell 3; tell 4; tell 5", turns="00000"), bound=3)
        self.traveller, self.seen = travelled(self.recording)

    def stays(self, own):
        self.assertEqual(self.traveller.at(), own)
        self.assertTrue(self.traveller.now() == self.recording.run().machine(own))

    def test_the_asked_def_refuses(self):
        for own in range(6):
            self.traveller.go(own)
            for time in range(6):
                refusal = Refused()

                def refuse(machine):
                    machine.step(0) if machine.ready() else None
                    raise refusal

                with self.assertRaises(Refused) as caught:
                    self.traveller.look(time, refuse)
                self.assertIs(caught.exception, refusal)
                self.stays(own)

    def test_the_seen_def_refuses(self):
        many = 0
        for own in range(6):
            for time in range(6):
                since = due_from(self.recording, own, time)
                for at in range(time - since):
                    asks = [lambda: self.traveller.go(time), lambda: self.traveller.look(time, lambda machine: self.fail())]
                    if time == own + 1:
                        asks.append(self.traveller.on)
                    if time == own - 1:
                        asks.append(self.traveller.back)
                    if own < time < 5:
                        asks.append(lambda: self.traveller.to_next(0, time))
                    if time < own:
                        asks.append(lambda: self.traveller.to_last(0, time))
                    for ask in asks:
                        self.seen.refuse_at = None
                        self.traveller.go(own)
                        self.seen.taken()
                        self.seen.refuse_at = at
                        with self.assertRaises(Refused) as caught:
                            ask()
                        self.assertEqual(caught.exception.args, (0, since + at))
                        self.stays(own)
                        many += 1
                    self.seen.refuse_at = None
        self.assertTrue(many > 60)

    def test_it_goes_on_behind_a_refusal(self):
        traveller, seen = travelled(Recording(self.recording.run()))
        seen.refuse_at = 2
        with self.assertRaises(Refused):
            traveller.go(4)
        self.assertEqual((traveller.at(), seen.taken()), (0, [(0, 0), (0, 1)]))
        seen.refuse_at = None
        self.assertEqual((traveller.go(4), seen.taken()), (4, [(0, 0), (0, 1), (0, 2), (0, 3)]))

    def test_refusals_of_all_kinds(self):
        for kind in (ValueError, KeyError, NoTime, StopIteration, KeyboardInterrupt, TypeError):
            def refuse(*told):
                raise kind(3)

            traveller = Traveller(self.recording, seen=refuse)
            with self.assertRaises(kind):
                traveller.go(1)
            self.assertEqual(traveller.at(), 0)
            with self.assertRaises(kind):
                self.traveller.look(1, refuse)
            self.assertEqual(self.traveller.at(), 0)


class OwnTest(unittest.TestCase):
    def test_two_travellers_beside_each_other(self):
        recording = Recording(run_of("tell 1; tell 2; tell 3", turns="000"))
        one, other = Traveller(recording), Traveller(recording)
        one.go(3)
        self.assertEqual((one.at(), other.at()), (3, 0))
        self.assertTrue(other.now() == recording.run().machine(0))
        self.assertTrue(recording == Recording(run_of("tell 1; tell 2; tell 3", turns="000")))


if __name__ == "__main__":
    unittest.main()
