"""Alike runs: the same steps with the same ahead of them, in whatever order."""

from replaytravel.order import clock


def is_step_again(run, other, number):
    """Whether the other run's step is the run's step of that name, clock and all."""
    name = other.called[number]
    if not run.has(name):
        return False
    due = run.number(name)
    return run.done[due] == other.done[number] and clock(run, due) == clock(other, number)


def is_again(run, other):
    """Whether the other run is the run again, as far as it goes."""
    if run.program() != other.program() or run.inputs() != other.inputs():
        return False
    return all([is_step_again(run, other, number) for number in range(len(other))])


def are_alike(one, other):
    """Whether two runs of one program and inputs are alike."""
    return len(one) == len(other) and is_again(one, other)


def clocks_by_thread(run):
    """Of each thread, the clocks of its steps in order."""
    clocks = [[] for thread in run.program()]
    for number, name in enumerate(run.called):
        clocks[name[0]].append(clock(run, number))
    return clocks


def is_free(thread, clocks, done):
    """Whether a thread has a step left, and all that is ahead of it is done."""
    if done[thread] == len(clocks[thread]):
        return False
    due = clocks[thread][done[thread]]
    return all([many <= done[other] or other == thread for other, many in enumerate(due)])


def least_turns(run):
    """The turns of an alike run that come first as lists of numbers."""
    clocks = clocks_by_thread(run)
    done = [0 for thread in clocks]
    turns = []
    while len(turns) < len(run):
        thread = min([thread for thread in range(len(clocks)) if is_free(thread, clocks, done)])
        done[thread] += 1
        turns.append(thread)
    return turns
