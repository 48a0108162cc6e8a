"""Runs turned about pairs, and all kinds of runs that are come to so."""

from replaytravel.alike import least_turns
from replaytravel.befores import turns_against
from replaytravel.bounds import MOST, MOST_TURNS
from replaytravel.errors import TooLong, TooMany
from replaytravel.machine import Machine
from replaytravel.pairs import check_pair, pairs
from replaytravel.runs import Run, steps_done
from replaytravel.turns import drawn_on
from replaytravel.waited import waited


def gone_on(program, inputs, turns):
    """The run of turns, gone on by the least ready thread until none is."""
    machine = Machine(program, inputs)
    steps_done(machine, turns)
    return Run(program, inputs, drawn_on(machine, turns, (), MOST))


def turned_about(run, pair):
    """A run turned about what is known to be a pair of it, or a waited one."""
    return gone_on(run.program(), run.inputs(), turns_against(run, pair))


def turned(run, pair):
    """A run turned about a pair or a waited one."""
    check_pair(pair, pairs(run) + waited(run))
    return turned_about(run, pair)


def least_behind(program, inputs, turns):
    """The least turns of the run of turns gone on; refused where it isn't over."""
    run = gone_on(program, inputs, turns)
    if not run.is_over():
        raise TooLong(MOST)
    return least_turns(run)


def reached(run, *, most=MOST_TURNS):
    """The least turns of all kinds of runs that turning comes to, sorted."""
    program = run.program()
    inputs = run.inputs()
    kinds = {}
    begun = {}
    waiting = [least_turns(run)]
    while waiting:
        turns = waiting.pop()
        if tuple(turns) in kinds:
            continue
        kinds[tuple(turns)] = True
        if len(kinds) > most:
            raise TooMany(most)
        one = Run(program, inputs, turns)
        for pair in pairs(one) + waited(one):
            # Of least turns all that are left are least, so that like ones are gone on once.
            against = turns_against(one, pair)
            if tuple(against) not in begun:
                begun[tuple(against)] = True
                waiting.append(least_behind(program, inputs, against))
    return [list(turns) for turns in sorted(list(kinds))]
