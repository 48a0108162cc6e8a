"""Replay: so many steps of each thread, kept in order by pairs."""

from replaytravel.befores import firsts_by_second
from replaytravel.errors import NoReplay
from replaytravel.machine import Machine
from replaytravel.runs import Run
from replaytravel.turns import chosen


def names_left(done, lengths):
    """The next names of all threads that have steps left, rising."""
    return [(thread, many) for thread, many in enumerate(done) if many < lengths[thread]]


def may_go(name, machine, firsts, reached):
    """Whether a thread's next step is ready, and all that pairs want ahead is done."""
    if machine.word(name[0]) != "ready":
        return False
    return all([first in reached for first in firsts.get(name, [])])


def replayed(program, inputs, pairs, lengths, numbers=()):
    """The run of lengths that pairs allow and numbers choose."""
    machine = Machine(program, inputs)
    firsts = firsts_by_second(pairs)
    done = [0] * len(program)
    reached = {}
    turns = []
    left = names_left(done, lengths)
    while left:
        able = [name for name in left if may_go(name, machine, firsts, reached)]
        if not able:
            raise NoReplay(left)
        name = chosen(numbers, len(turns), able)
        machine.step(name[0])
        turns.append(name[0])
        reached[name] = True
        done[name[0]] += 1
        left = names_left(done, lengths)
    return Run(program, inputs, turns)
