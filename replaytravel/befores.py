"""Befores: what turns keep, what a list of them lacks, how a pair is broken."""

from replaytravel.errors import NoThread, NotAhead, NotReady
from replaytravel.machine import Machine
from replaytravel.order import is_ahead, parted, turns_at
from replaytravel.pairs import check_pair, pairs
from replaytravel.runs import names_of, steps_done


def keeps(befores, turns):
    """Whether turns do, of each before whose second name they do, the first ahead."""
    places = {name: at for at, name in enumerate(names_of(turns))}
    for one, other in befores:
        if other in places and places.get(one, len(turns)) >= places[other]:
            return False
    return True


def is_before(run, one, other):
    """Whether any two things are names of steps, the one ahead of the other."""
    if not run.has(one) or not run.has(other):
        return False
    return is_ahead(run, run.number(one), run.number(other))


def firsts_by_second(befores):
    """Of each second name in befores, the first names."""
    firsts = {}
    for one, other in befores:
        firsts[other] = firsts.get(other, []) + [one]
    return firsts


def is_held(run, one, firsts):
    """Whether a step is one of the first names, or ahead of one."""
    number = run.number(one)
    return any([first == one or is_ahead(run, number, run.number(first)) for first in firsts])


def lacks(run, befores):
    """The first pair that a list of befores lacks, or None."""
    for one, other in befores:
        if not is_before(run, one, other):
            raise NotAhead(one, other)
    firsts = firsts_by_second(befores)
    for one, other in pairs(run):
        if not is_held(run, one, firsts.get(other, [])):
            return (one, other)
    return None


def turns_against(run, pair):
    """Turns of all steps but the first one and what it is ahead of, then the second's thread."""
    one, other = pair
    kept, left_out = parted(run, run.number(one))
    return turns_at(run, kept) + [other[0]]


def broken(run, pair):
    """The turns by which a pair of the run is broken."""
    check_pair(pair, pairs(run))
    return turns_against(run, pair)


def can_be_done(run, turns):
    """Whether turns can be done with the run's program and inputs."""
    try:
        steps_done(Machine(run.program(), run.inputs()), turns)
    except (NotReady, NoThread):
        return False
    return True


def breaks(run, pair, turns):
    """Whether any turns break a pair of the run, and no other one."""
    known = pairs(run)
    check_pair(pair, known)
    one, other = pair
    names = names_of(turns)
    if one in names or other not in names:
        return False
    return keeps([held for held in known if held != pair], turns) and can_be_done(run, turns)
