"""The pairs of a run: so few befores that keeping them is the run again."""

from replaytravel.errors import NoPair
from replaytravel.order import is_ahead, next_ahead
from replaytravel.runs import is_name


def own_ahead(run, number):
    """The number of its thread's step just ahead of a step, in a list."""
    thread, nth = run.called[number]
    return [run.places[(thread, nth - 1)]] if nth > 0 else []


def pairs_to(run, number):
    """The pairs whose second name is that of a step."""
    thread = run.called[number][0]
    nexts = next_ahead(run, number)
    through = own_ahead(run, number) + nexts
    found = []
    for one in nexts:
        # What is ahead through others is kept where these are.
        if run.called[one][0] != thread and not any([is_ahead(run, one, other) for other in through]):
            found.append((run.called[one], run.called[number]))
    return found


def pairs(run):
    """The pairs, sorted."""
    return sorted([pair for number in range(len(run)) for pair in pairs_to(run, number)])


def check_pair(thing, known):
    """Refuses anything that is none of the known pairs."""
    if not isinstance(thing, tuple) or len(thing) != 2:
        raise NoPair(thing, None)
    one, other = thing
    # A truth is equal to a number, but what holds one is no name.
    if not is_name(one) or not is_name(other) or thing not in known:
        raise NoPair(one, other)
