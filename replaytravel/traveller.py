"""Travelling: standing at a time of a recording, and going to others."""

from replaytravel.deeds import follow
from replaytravel.errors import NoTime


def kept_machines(run, times):
    """Of each kept time the machine as it is then."""
    machines = {0: run.machine(0)}
    for last, time in zip(times, times[1:]):
        machine = machines[last].copied()
        for step in run.done[last:time]:
            follow(machine, step)
        machines[time] = machine
    return machines


class Traveller:
    """Stands at a time of a recording; whoever is to see each step redone is called."""

    def __init__(self, recording, *, seen=None):
        self.travelled = recording.run()
        self.machines = kept_machines(self.travelled, recording.kept())
        self.seen = seen
        self.time = 0
        self.here = self.machines[0]

    def at(self):
        """The time where it stands."""
        return self.time

    def now(self):
        """The machine as it is then."""
        return self.here.copied()

    def redone(self, machine, since, time):
        """A copy of a machine with the steps from a time to another one redone."""
        seen = self.seen
        behind = machine.copied()
        for step in self.travelled.done[since:time]:
            if seen is not None:
                seen(step[0], step[1])
            follow(behind, step)
        return behind

    def machine_at(self, time):
        """The machine at a time, come to from the own time or the last kept one; it stays."""
        self.travelled.check_time(time)
        kept = max([other for other in self.machines if other <= time])
        if kept <= self.time <= time:
            return self.redone(self.here, self.time, time)
        return self.redone(self.machines[kept], kept, time)

    def go(self, time):
        """Goes to a time."""
        # It stands there only when all is redone, whatever was refused on the way.
        self.here = self.machine_at(time)
        self.time = time
        return time

    def on(self):
        """Goes on by one."""
        return self.go(self.time + 1)

    def back(self):
        """Goes back by one."""
        return self.go(self.time - 1)

    def times_of(self, thread, row):
        """The times whose step is of a row of a thread, rising."""
        return [time for time, step in enumerate(self.travelled.done) if step[:2] == (thread, row)]

    def to_next(self, thread, row):
        """Goes to the next time behind its own whose step is of a row of a thread."""
        times = [time for time in self.times_of(thread, row) if time > self.time]
        if not times:
            raise NoTime(None)
        return self.go(times[0])

    def to_last(self, thread, row):
        """Goes to the last time ahead of its own whose step is of a row of a thread."""
        times = [time for time in self.times_of(thread, row) if time < self.time]
        if not times:
            raise NoTime(None)
        return self.go(times[-1])

    def look(self, time, asked):
        """What a function tells of the machine at a time; it stays."""
        return asked(self.machine_at(time))
