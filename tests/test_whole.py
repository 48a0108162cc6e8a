"""Promise 4: the whole, over short runs and runs of some three hundred turns."""

import unittest

from replaytravel.alike import is_again, least_turns
from replaytravel.alone import done_alone
from replaytravel.asking import changes, first_when, held_by, last_when, last_write, readers, rings_at, waits_at
from replaytravel.desk import Desk
from replaytravel.fewest import fewest
from replaytravel.fewlooks import bars_fewer
from replaytravel.goals import comes_to
from replaytravel.kept import kept_times
from replaytravel.keptlooks import bars_cheaper, cost_of
from replaytravel.played import otherwise
from replaytravel.programtexts import show_program
from replaytravel.recordings import Recording
from replaytravel.recordingtexts import read_recording, show_recording
from replaytravel.replay import replayed
from replaytravel.runs import Run
from replaytravel.traveller import Traveller
from replaytravel.turns import packed, switches
from replaytravel.why import why
from tests.helpers import drawn, program_of
from tests.slow import flow_run, goals_of, lengths_of, long_run, some_program, some_run
from tests.test_kept import HEFTS

BOUNDS = (0, 4, 13, 60, 999999999)


def some_recordings():
    """Recordings of short runs and of long ones, with their bounds."""
    for seed in range(18):
        yield Recording(some_run(seed, most=12), bound=BOUNDS[seed % 5])
        yield Recording(flow_run(seed), bound=BOUNDS[(seed + 1) % 5])
    for seed in range(4):
        yield Recording(long_run(seed), bound=BOUNDS[seed])


class WholeTest(unittest.TestCase):
    def test_written_and_read_it_is_the_recording(self):
        for recording in some_recordings():
            text = show_recording(recording)
            self.assertIs(read_recording(text) == recording, True)
            self.assertEqual(show_recording(read_recording(text)), text)

    def test_replays_by_the_pairs_read_are_the_run_again(self):
        for at, recording in enumerate(some_recordings()):
            read = read_recording(show_recording(recording))
            run = read.run()
            for seed in range(3):
                again = replayed(run.program(), run.inputs(), read.pairs(), lengths_of(run), drawn(at * 9 + seed, len(run)))
                self.assertIs(is_again(run, again), True)
                self.assertEqual(len(again), len(run))
                self.assertEqual(least_turns(again), least_turns(run))
                self.assertEqual(again.machine(len(run)).state(), run.machine(len(run)).state())

    def test_travellers_stand_by_the_runs_machines(self):
        for recording in some_recordings():
            read = read_recording(show_recording(recording))
            run, rows = read.run(), []
            hefts = [HEFTS[step[2]] for step in run.steps()]
            traveller = Traveller(read, seen=lambda thread, row: rows.append((thread, row)))
            many = len(run)
            for k in range(40):
                time, own = (k * 61 + 17) % (many + 1), traveller.at()
                kept = max([other for other in read.kept() if other <= time])
                since = own if kept <= own <= time else kept
                rows.clear()
                traveller.go(time)
                self.assertEqual(rows, [step[:2] for step in run.steps()[since:time]])
                self.assertTrue(sum(hefts[since:time]) <= read.bound())
                self.assertTrue(traveller.now() == run.machine(time))

    def test_no_cheaper_times_do(self):
        for recording in some_recordings():
            run, bound = recording.run(), recording.bound()
            cost, times, paper = kept_times(run, bound)
            self.assertEqual(cost_of(run, recording.kept()), cost)
            self.assertIs(bars_cheaper(run, bound, cost, paper), True)

    def test_what_is_asked_is_what_going_through_all_steps_tells(self):
        for recording in some_recordings():
            read = read_recording(show_recording(recording))
            run, traveller = read.run(), Traveller(read)
            machine, held, wrote, locked = run.machine(0), [0] * 64, [None] * 64, {}
            for time, step in enumerate(run.steps() + [None]):
                for cell in range(0, 8):
                    self.assertEqual(machine.cell(cell), held[cell])
                if time % 9 == 0 or step is None:
                    # Wherever it is travelled, the same is told.
                    traveller.go(len(run) - time)
                    for cell in (0, 1, 5):
                        self.assertEqual(last_write(read, time, cell), wrote[cell])
                    self.assertEqual(waits_at(read, time), machine.waits())
                    self.assertEqual(rings_at(read, time), machine.rings())
                    for lock in range(3):
                        holder = machine.holder(lock)
                        due = None if holder is None else (holder, locked[lock])
                        self.assertEqual(held_by(read, time, lock), due)
                if step is None:
                    break
                self.assertEqual(machine.step(step[0]), step)
                if step[2] in ("store", "swap"):
                    held[step[3][1]], wrote[step[3][1]] = step[5], time
                if step[2] == "lock":
                    locked[step[3][1]] = time

    def test_when_and_readers_hang_together(self):
        for recording in some_recordings():
            run = recording.run()
            for cell in (0, 1):
                for number, before, behind in changes(recording, cell):
                    self.assertEqual(first_when(recording, cell, behind, since=number + 1), number + 1)
                    self.assertEqual(last_when(recording, cell, before, until=number), number)
            for number in range(0, len(run), 5):
                for reader in readers(recording, number):
                    self.assertEqual(run.steps()[reader][4], run.steps()[number][5])

    def test_the_steps_from_which_a_worth_comes_give_it(self):
        many = 0
        for recording in some_recordings():
            run = read_recording(show_recording(recording)).run()
            for time in {0, len(run) // 3, len(run) // 2, len(run)}:
                for cell in range(10):
                    rows = why(run, time, cell)
                    worths = done_alone(run, rows)
                    due = [run.steps()[number][4 if part == "got" else 5] for number, part, sources in rows]
                    self.assertEqual([worth for number, part, worth in worths], due)
                    if rows:
                        self.assertEqual(worths[-1][2], run.machine(time).cell(cell))
                        many += len(rows) > 9
        self.assertTrue(many > 40)

    def test_played_to_its_own_program_nothing_goes_otherwise(self):
        for recording in some_recordings():
            run = read_recording(show_recording(recording)).run()
            self.assertIs(otherwise(run, run.program(), run.inputs()), None)

    def test_the_fewest_switches_recorded_and_travelled_come_to_the_goal(self):
        seen = set()
        for seed in range(40):
            program = some_program(seed)
            inputs = [[1] for _ in program]
            for goal in goals_of(program)[seed % 3::3]:
                many, turns, paper = fewest(program, inputs, goal)
                self.assertIs(bars_fewer(program, inputs, goal, many, paper), True)
                seen.add(many)
                if many is None:
                    continue
                recording = read_recording(show_recording(Recording(Run(program, inputs, turns), bound=5)))
                traveller = Traveller(recording)
                self.assertEqual(switches(recording.run().turns()), many)
                self.assertEqual(traveller.go(len(turns)), len(turns))
                self.assertIs(comes_to(traveller.now(), goal), True)
                self.assertIs(traveller.look(len(turns), lambda machine: comes_to(machine, goal)), True)
        self.assertTrue(seen >= {None, 0, 1, 2})

    def test_a_long_way_to_a_goal(self):
        program = program_of("set a, a 1 +; if a 130 <, 0; store 0, 1", "load b, 0; check b; tell 1")
        inputs = [[], []]
        many, turns, paper = fewest(program, inputs, ("told", 1, 1))
        self.assertEqual(many, 1)
        self.assertTrue(240 < len(turns) < 300)
        desk = Desk()
        desk.say("program\n" + show_program(program))
        desk.say("run " + packed(turns))
        desk.say(f"go {len(turns)}")
        self.assertEqual(desk.say("threads").split(" ")[1], "ended")
        self.assertEqual(desk.say("text"), show_recording(Recording(Run(program, inputs, turns))))


if __name__ == "__main__":
    unittest.main()
