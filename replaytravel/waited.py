"""Waited pairs: what a thread that waits at the end came too late for."""

from replaytravel.order import is_ahead

WORDS = {"lock": "lock", "line": "take"}


def waited_by(run, thread, kind, number):
    """The waited pairs, one at most, of a thread that waits for a lock or line."""
    links = run.standing().links
    own = links.last_of(thread)
    name = (thread, run.order.count(thread))
    found = []
    for one in links.next_of(WORDS[kind], (kind, number)):
        if run.called[one][0] != thread and not any([is_ahead(run, one, last) for last in own]):
            found.append((run.called[one], name))
    return found


def waited(run):
    """The waited pairs of a run that is over, sorted; none of one that isn't."""
    if not run.is_over():
        return []
    waits = run.last.waits()
    return sorted([pair for thread, kind, number, holder in waits for pair in waited_by(run, thread, kind, number)])
