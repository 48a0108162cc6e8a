"""The document's definitions done the slow way, word by word, to stand beside the program's answers."""

from replaytravel.machine import Machine
from replaytravel.runs import Run
from replaytravel.turns import drawn_turns
from tests.helpers import drawn, program_of

WRITES = ("store", "swap")
# Rows that a thread of a drawn program is put together from, some of each set in one program.
PHRASES = (
    ("load a, 0", "store 0, a 1 +", "swap b, 0, a", "load b, 1", "store 1, 1", "tell b", "store a, 2"),
    ("lock 0; free 0", "lock 0; store 0, 1; free 0", "load a, 0", "lock 1; free 1", "lock 0; lock 1; free 0", "free 1"),
    ("send 0, 1", "send 0, a; send 1, 2", "take a, 0", "take b, 1; tell b", "send 0, 2; take a, 0", "check a"),
    ("lock 0; send 0, 1; free 0", "lock 0; take a, 0", "free 0", "take a, 0; lock 1", "lock 1; lock 0; free 1", "lock 0"),
    ("load a, 0", "store 0, 1", "if a, 1; tell 3", "check a", "input b; store 0, b", "swap a, 0, 0", "load a, 64"),
    ("lock 0; load a, 0; free 0", "store 0, b 1 +", "send 0, a", "take b, 0", "input b; tell b", "if b, 0", "lock 1"),
)


def some_program(seed, phrases=3):
    """A small program of one to three threads, the same for the same seed."""
    numbers = drawn(seed * 7919 + 13, 40)[8:]
    known = PHRASES[seed % len(PHRASES)]
    threads = []
    for thread in range((2, 3, 2, 3, 2, 1)[numbers[0] % 6]):
        some = numbers[4 + 8 * thread:][:1 + numbers[1 + thread] % phrases]
        threads.append("; ".join([known[number % len(known)] for number in some]))
    return program_of(*threads)


def some_run(seed, most=9):
    """A run of such a program, over or cut."""
    program = some_program(seed)
    inputs = [[1] for _ in program]
    return Run(program, inputs, drawn_turns(program, inputs, drawn(seed + 1000, 40), most=most))


def next_ones(steps, number):
    """The numbers of those next ahead (17)."""
    word, touch = steps[number][2:4]
    there = [k for k in range(number) if touch is not None and steps[k][3] == touch]
    if word in ("lock", "send", "take"):
        return [k for k in there if steps[k][2] == word][-1:]
    last = [k for k in there if steps[k][2] in WRITES][-1:]
    if word == "load":
        return last
    if word in WRITES:
        return last + [k for k in there if steps[k][2] == "load" and (not last or k > last[0])]
    return []


def links_of(steps, number):
    """The numbers of all that a way may come from (19)."""
    thread, row, word, touch, got, put = steps[number]
    links = [k for k in range(number) if steps[k][0] == thread][-1:] + next_ones(steps, number)
    if word == "lock":
        links += [k for k in range(number) if steps[k][2:4] == ("free", touch)][-1:]
    if word == "take":
        nth = len([k for k in range(number) if steps[k][2:4] == ("take", touch)])
        links.append([k for k in range(number) if steps[k][2:4] == ("send", touch)][nth])
    return set(links)


def aheads_of(steps):
    """Of each step, the set of the numbers of all that are ahead of it (18)."""
    aheads = []
    for number in range(len(steps)):
        links = links_of(steps, number)
        aheads.append(links.union(*[aheads[k] for k in links]))
    return aheads


def clocks_of(steps, threads):
    """The clocks (18)."""
    clocks = []
    for number, ahead in enumerate(aheads_of(steps)):
        counted = [steps[k][0] for k in ahead | {number}]
        clocks.append(tuple([counted.count(thread) for thread in range(threads)]))
    return clocks


def pairs_of(run):
    """The pairs (20)."""
    steps, names, aheads = run.steps(), run.names(), aheads_of(run.steps())
    found = []
    for b in range(len(steps)):
        nexts = next_ones(steps, b)
        own = [k for k in range(b) if steps[k][0] == steps[b][0]][-1:]
        for a in nexts:
            through = any(a in aheads[k] for k in own) or any(a in aheads[k] for k in nexts if k != a)
            if steps[a][0] != steps[b][0] and not through:
                found.append((names[a], names[b]))
    return sorted(found)


def all_turns(program, inputs, lengths=None):
    """All turns that can be done, no thread having more than its length; None where they are too many."""
    found, waiting = [], [([], Machine(program, inputs))]
    while waiting:
        turns, machine = waiting.pop()
        found.append(turns)
        if len(found) > 400:
            return None
        for thread in machine.ready():
            if lengths is None or turns.count(thread) < lengths[thread]:
                behind = machine.copied()
                behind.step(thread)
                waiting.append((turns + [thread], behind))
    return found


def lengths_of(run):
    """How many steps each thread has."""
    return [run.turns().count(thread) for thread in range(len(run.program()))]


def kind_of(run):
    """What alike runs have the same of: each name's step and clock (26)."""
    clocks = clocks_of(run.steps(), len(run.program()))
    return tuple(sorted(zip(run.names(), run.steps(), clocks), key=lambda row: row[0]))


def is_run_again(run, other):
    """Whether the other is the run again (14), of runs of one program and inputs."""
    return set(kind_of(other)) <= set(kind_of(run))


def small_runs(seeds, most):
    """Drawn runs with their seeds, each with all runs of its program that have no thread's steps more."""
    for seed in range(seeds):
        run = some_run(seed, most=most)
        turns = all_turns(run.program(), run.inputs(), lengths_of(run))
        if turns is not None:
            yield seed, run, [Run(run.program(), run.inputs(), row) for row in turns]


def gone_on_slowly(program, inputs, turns):
    """The turns, gone on by the least ready thread (32)."""
    machine, turns = Machine(program, inputs), list(turns)
    for thread in turns:
        machine.step(thread)
    while machine.ready() and len(turns) < 400:
        turns.append(min(machine.ready()))
        machine.step(turns[-1])
    return turns


def turned_slowly(run, pair):
    """The turns of the run turned about a pair, or a waited one (30)."""
    a, aheads = run.names().index(pair[0]), aheads_of(run.steps())
    left = [run.turns()[k] for k in range(len(run)) if k != a and a not in aheads[k]]
    return gone_on_slowly(run.program(), run.inputs(), left + [pair[1][0]])


# Each thread goes round: what there is of words comes again and again.
LONG = (
    "input a; load b, 0; store 0, b a +; lock 0; swap c, 1, b; free 0; send 0, c; tell c; go 1",
    "lock 0; load a, 1; free 0; take b, 0; store a 7 & 2 +, b; set c, c 1 +; if c 30 <, 0; check 0",
    "swap a, 0, a 1 +; lock 1; lock 0; free 1; store 1, a; free 0; check c 40 <; set c, c 1 +; go 0",
)


def long_run(seed, most=300):
    """A run of some three hundred turns."""
    program, inputs = program_of(*LONG), [[5], [], []]
    return Run(program, inputs, drawn_turns(program, inputs, drawn(seed, most), most=most))


def state_behind(program, inputs, turns):
    """The state behind turns."""
    machine = Machine(program, inputs)
    for thread in turns:
        machine.step(thread)
    return machine.state()


def goals_of(program):
    """Goals of each kind for a drawn program, some that are come to and some that aren't."""
    goals = [("stuck",)]
    for thread, rows in enumerate(program):
        goals += [("falls", thread, row) for row in range(len(rows))]
        goals += [("told", thread, worth) for worth in (0, 1, 2, 3)]
    return goals + [("cell", cell, worth) for cell in (0, 1) for worth in (0, 1, 2)]


# Rows by which worths go to and fro between letters, cells and lines.
FLOWS = ("load a, 0", "store 0, a b +", "swap b, 1, a 1 +", "send 0, a b -; take c, 0", "set a, c 2 *", "load b, a 3 &",
         "store b 1 &, c", "input c", "swap a, 0, a", "send 1, c; take a, 1", "tell a c +", "set c, a b ^ 1 +", "load c, 1")


def flow_run(seed, most=40):
    """A run in which worths come from afar."""
    numbers = drawn(seed * 31 + 7, 60)
    threads = ["; ".join([FLOWS[number % len(FLOWS)] for number in numbers[at:at + 9]]) for at in (5, 17, 29)]
    program, inputs = program_of(*threads), [[numbers[0] % 90], [7, -4], [numbers[1] % 50]]
    return Run(program, inputs, drawn_turns(program, inputs, numbers, most=most))
