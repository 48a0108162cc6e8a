"""Questions about a recording: who wrote, read, held and waited, and when."""

from replaytravel.links import WRITES
from replaytravel.machine import check_place


def checked(recording, time, kind, number):
    """The run of a recording; refuses what is no time of it, then what is no place."""
    run = recording.run()
    run.check_time(time)
    check_place(kind, number)
    return run


def writes_of(run, cell):
    """The numbers of the steps that wrote a cell, rising."""
    return [number for number, step in enumerate(run.done) if step[2] in WRITES and step[3] == ("cell", cell)]


def last_write(recording, time, cell):
    """The number of the last step ahead of a time that wrote a cell, or None."""
    run = checked(recording, time, "cell", cell)
    return max([number for number in writes_of(run, cell) if number < time], default=None)


def next_write(recording, time, cell):
    """The number of the first step at or behind a time that writes a cell, or None."""
    run = checked(recording, time, "cell", cell)
    return min([number for number in writes_of(run, cell) if number >= time], default=None)


def changes(recording, cell):
    """(number, before, behind) of each step that wrote another worth than a cell held."""
    run = checked(recording, 0, "cell", cell)
    held = 0
    found = []
    for number in writes_of(run, cell):
        put = run.done[number][5]
        if put != held:
            found.append((number, held, put))
        held = put
    return found


def worths_of(run, cell):
    """What a cell holds, time by time."""
    worths = [0]
    for step in run.done:
        writes = step[2] in WRITES and step[3] == ("cell", cell)
        worths.append(step[5] if writes else worths[-1])
    return worths


def times_of(run, cell, worth):
    """The times at which a cell holds a worth, rising."""
    return [time for time, held in enumerate(worths_of(run, cell)) if held == worth]


def first_when(recording, cell, worth, *, since=0):
    """The first time, from one on, at which a cell holds a worth, or None."""
    run = checked(recording, since, "cell", cell)
    return min([time for time in times_of(run, cell, worth) if time >= since], default=None)


def last_when(recording, cell, worth, *, until=None):
    """The last time, up to one, at which a cell holds a worth, or None."""
    end = len(recording.run()) if until is None else until
    run = checked(recording, end, "cell", cell)
    return max([time for time in times_of(run, cell, worth) if time <= end], default=None)


def readers(recording, number):
    """The numbers of the steps that read what a step wrote, or took what it sent."""
    run = recording.run()
    run.check_number(number)
    return [at for at, sources in enumerate(run.standing().reads) if number in sources]


def held_by(recording, time, lock):
    """(thread, number of the lock step) of who holds a lock at a time, or None."""
    run = checked(recording, time, "lock", lock)
    holder = None
    for number, step in enumerate(run.done[:time]):
        if step[3] == ("lock", lock):
            holder = (step[0], number) if step[2] == "lock" else None
    return holder


def waits_at(recording, time):
    """What each thread that waits at a time is waiting for."""
    return recording.run().machine(time).waits()


def rings_at(recording, time):
    """The rings of threads that wait for one another at a time."""
    return recording.run().machine(time).rings()
