"""Rings of threads that wait for one another's locks."""


def ring_from(thread, holders):
    """The ring that a thread is the least of, or None where it is of none.

    holders tells, of each thread that waits for a lock, who holds it. Each
    waits for one lock at most, so there is just one way to follow.
    """
    ring = [thread]
    behind = holders[thread]
    while behind in holders and behind > thread and behind not in ring:
        ring.append(behind)
        behind = holders[behind]
    return tuple(ring) if behind == thread else None


def rings_of(waits):
    """The rings in a machine's waits; both rise."""
    holders = {thread: holder for thread, kind, number, holder in waits if kind == "lock"}
    rings = [ring_from(thread, holders) for thread in holders]
    return [ring for ring in rings if ring is not None]
