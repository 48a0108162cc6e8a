"""Looks at kept times told by anybody: whether they do, what they cost, what bars cheaper ones."""

from replaytravel.kept import earliest, hefts_of, sizes_of
from replaytravel.wholes import is_whole


def do_keep(run, bound, times):
    """Whether a tuple of whole numbers are kept times that do for a bound."""
    if len(times) == 0 or times[0] != 0:
        return False
    ends = list(times[1:]) + [len(run) + 1]
    stretches = list(zip(times, ends))
    # Ahead of all else: only of what rises up to the end all are times.
    if not all([time < behind for time, behind in stretches]):
        return False
    hefts = hefts_of(run)
    return all([earliest(hefts, bound, behind) <= time for time, behind in stretches])


def cost_of(run, times):
    """What kept times cost: their sizes together, but for that at 0."""
    sizes = sizes_of(run)
    return sum([sizes[time] for time in times if time != 0])


def bars_cheaper(run, bound, cost, paper):
    """Whether a paper bars all costs less than this one."""
    sizes = sizes_of(run) + [0]
    if len(paper) != len(sizes) or not all([is_whole(number) for number in paper]):
        return False
    hefts = hefts_of(run)
    for time in range(1, len(sizes)):
        least = min(paper[earliest(hefts, bound, time):time])
        if paper[time] > least + sizes[time]:
            return False
    return paper[0] == 0 and paper[-1] >= cost
