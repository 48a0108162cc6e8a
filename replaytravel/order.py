"""What is ahead of what in a run, by the numbers of its steps."""


def next_ahead(run, number):
    """The numbers of the steps next ahead of a step, rising."""
    return list(run.standing().nexts[number])


def clock(run, number):
    """How many steps of each thread are ahead of a step or are this one."""
    return run.standing().clocks[number]


def is_ahead(run, one, other):
    """Whether the one step is ahead of the other one."""
    thread, nth = run.called[one]
    return one != other and run.standing().clocks[other][thread] > nth


def parted(run, one):
    """All numbers in two lists: a step with what it is ahead of is the second."""
    held = [number == one or is_ahead(run, one, number) for number in range(len(run))]
    return (
        [number for number, is_held in enumerate(held) if not is_held],
        [number for number, is_held in enumerate(held) if is_held],
    )


def turns_at(run, numbers):
    """The turns of the steps of these numbers."""
    return [run.called[number][0] for number in numbers]
