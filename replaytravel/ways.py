"""Ways: that a step is ahead of another one, shown link by link; or that it isn't."""

from replaytravel.order import is_ahead, parted, turns_at


def link_towards(run, one, other):
    """Of those straight ahead of the other step, one that is the one or behind it."""
    fit = [number for number in run.standing().straights[other] if number == one or is_ahead(run, one, number)]
    return fit[0]


def way_to(run, one, other):
    """The names from the one step to the other, or None where it isn't ahead."""
    if one != other and not is_ahead(run, one, other):
        return None
    # From the end on: whatever is ahead is so through one that is straight ahead.
    way = [other]
    while way[-1] != one:
        way.append(link_towards(run, one, way[-1]))
    return [run.called[number] for number in way[::-1]]


def is_way(run, names):
    """Whether anything is a way of the run."""
    if not isinstance(names, list) or len(names) == 0:
        return False
    if not all([run.has(name) for name in names]):
        return False
    numbers = [run.number(name) for name in names]
    straights = run.standing().straights
    return all([one in straights[other] for one, other in zip(numbers, numbers[1:])])


def other_way(run, one, other):
    """Turns of an alike run where the other comes first, or None where it can't."""
    if is_ahead(run, one, other):
        return None
    first, second = parted(run, one)
    return turns_at(run, first + second)
