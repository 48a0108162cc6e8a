"""Kept times: how heavy steps are, how large states, which times are cheapest to keep."""

from replaytravel.deeds import follow

HEFTS = {
    "set": 1,
    "tell": 1,
    "check": 1,
    "if": 1,
    "go": 1,
    "falls": 1,
    "load": 2,
    "store": 2,
    "swap": 3,
    "send": 3,
    "take": 3,
    "lock": 4,
    "free": 4,
    "input": 5,
}

# What a state takes even where it holds nothing.
LEAST_SIZE = 8


def heft(step):
    """How heavy a step is to be redone."""
    return HEFTS[step[2]]


def hefts_of(run):
    """The hefts of a run's steps, by numbers."""
    return [heft(step) for step in run.done]


def size_of(machine):
    """How much it takes to keep a machine's state."""
    held = [worth for worths in machine.registers for worth in worths.values()]
    full = [worth for worth in machine.cells + held if worth != 0]
    locked = [holder for holder in machine.locks if holder is not None]
    return LEAST_SIZE + len(full) + len(locked) + sum([len(line) for line in machine.lines])


def size_at(run, time):
    """The size of a run's state at a time."""
    return size_of(run.machine(time))


def sizes_of(run):
    """The sizes at all times of a run."""
    machine = run.machine(0)
    sizes = [size_of(machine)]
    for step in run.done:
        follow(machine, step)
        sizes.append(size_of(machine))
    return sizes


def earliest(hefts, bound, time):
    """The least time that may be the last kept one ahead of a time.

    All times between are come to from it, the farthest of them being time - 1.
    """
    at = time - 1
    together = 0
    while at > 0 and together + hefts[at - 1] <= bound:
        at -= 1
        together += hefts[at]
    return at


def traced(lasts):
    """The kept times, each found as the last one ahead of the next, from the end on."""
    times = [lasts[-1]]
    while times[-1] != 0:
        times.append(lasts[times[-1]])
    return tuple(times[::-1])


def kept_times(run, bound):
    """(cost, times, paper): the cheapest kept times that do for a bound."""
    hefts = hefts_of(run)
    # Behind the last time stands one more that costs nothing, the end.
    sizes = sizes_of(run) + [0]
    paper = [0]
    lasts = [0]
    for time in range(1, len(sizes)):
        cost, last = min([(paper[at], at) for at in range(earliest(hefts, bound, time), time)])
        paper.append(cost + sizes[time])
        lasts.append(last)
    return (paper[-1], traced(lasts), paper)
