"""All runs of a program with inputs, by their least turns; their outcomes.

Least turns are found from those one shorter, each with the machine and the
links behind it: (turns, machine, links).
"""

from replaytravel.bounds import MOST_TURNS
from replaytravel.deeds import follow, step_of
from replaytravel.errors import TooLong, TooMany
from replaytravel.links import Links
from replaytravel.machine import Machine
from replaytravel.runs import Run

LONGEST = 60


def none_done(program, inputs):
    """The turns of none, with the machine and the links behind them."""
    return ([], Machine(program, inputs), Links())


def stays_least(turns, links, step):
    """Whether least turns with a step behind them are least, too.

    They aren't where the step could come sooner, ahead of a greater thread's.
    """
    thread, at, word, touch, got, put = step
    soonest = 1 + max([-1] + links.straight_of(thread, word, touch))
    return all([other < thread for other in turns[soonest:]])


def with_step(begun, step):
    """Least turns with a step behind them."""
    turns, machine, links = begun
    machine_behind = machine.copied()
    follow(machine_behind, step)
    links_behind = links.copied()
    links_behind.note(step)
    return (turns + [step[0]], machine_behind, links_behind)


def one_longer(begun):
    """All least turns that begin with these and are one longer."""
    turns, machine, links = begun
    steps = [step_of(machine, thread) for thread in machine.ready()]
    return [with_step(begun, step) for step in steps if stays_least(turns, links, step)]


def all_least(program, inputs, most):
    """All least turns, sorted, each as (turns, whether they are over)."""
    found = []
    waiting = [none_done(program, inputs)]
    while waiting:
        begun = waiting.pop()
        turns, machine, links = begun
        found.append((turns, machine.ready() == []))
        if len(found) > most:
            raise TooMany(most)
        if len(turns) > LONGEST:
            raise TooLong(LONGEST)
        waiting.extend(one_longer(begun))
    return sorted(found)


def all_runs(program, inputs, *, most=MOST_TURNS):
    """The least turns that are over, sorted."""
    return [turns for turns, is_over in all_least(program, inputs, most) if is_over]


def runs_paper(program, inputs, *, most=MOST_TURNS):
    """All least turns, sorted: they show that all runs are told."""
    return [turns for turns, is_over in all_least(program, inputs, most)]


def is_runs_paper(program, inputs, paper):
    """Whether a list of lists of whole numbers, in any order, is the paper."""
    rows = {tuple(turns): True for turns in paper}
    if len(rows) < len(paper) or () not in rows:
        return False
    many = 0
    waiting = [none_done(program, inputs)]
    while waiting:
        many += 1
        longer = one_longer(waiting.pop())
        if not all([tuple(turns) in rows for turns, machine, links in longer]):
            return False
        waiting.extend(longer)
    # All that were come to are rows; a row more is none that can be come to.
    return many == len(rows)


def outcome(run):
    """The threads' words, what each told, and the cells behind a run."""
    machine = run.last
    tellings = [tuple(told) for told in machine.tellings]
    return (tuple(machine.words()), tuple(tellings), tuple(machine.cells))


def outcomes(program, inputs, *, most=MOST_TURNS):
    """Each outcome of runs that are over, with the first least turns that have it."""
    found = {}
    for turns in all_runs(program, inputs, most=most):
        found.setdefault(outcome(Run(program, inputs, turns)), turns)
    return list(found.items())
