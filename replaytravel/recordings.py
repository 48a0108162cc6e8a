"""Recordings: runs with the times at which their states are kept."""

from replaytravel.bounds import BOUND
from replaytravel.kept import kept_times
from replaytravel.pairs import pairs
from replaytravel.runs import Run


def same_run(run):
    """A run of its own that is equal to a run."""
    return Run(run.program(), run.inputs(), run.turns())


class Recording:
    """A run recorded with a bound: how heavy what is redone may be."""

    def __init__(self, run, *, bound=BOUND):
        cost, times, paper = kept_times(run, bound)
        self.recorded = same_run(run)
        self.limit = bound
        self.befores = pairs(run)
        self.times = times

    def __eq__(self, other):
        # Of equal runs the pairs are the same.
        return (
            isinstance(other, Recording)
            and self.limit == other.limit
            and self.times == other.times
            and self.recorded == other.recorded
        )

    def run(self):
        """The run."""
        return same_run(self.recorded)

    def bound(self):
        """The bound."""
        return self.limit

    def pairs(self):
        """The pairs of the run, sorted."""
        return list(self.befores)

    def kept(self):
        """The kept times."""
        return self.times
