"""Races, the pairs of cells, and weighty pairs, which the outcome hangs on."""

from replaytravel.allruns import outcome
from replaytravel.pairs import pairs
from replaytravel.turned import gone_on, turned_about


def touches_cell(run, name):
    """Whether a step that touches something touches a cell."""
    touch = run.done[run.number(name)][3]
    return touch[0] == "cell"


def races(run):
    """The pairs of which both touch a cell."""
    # Both touch the same place, so that the one tells it of both.
    return [(one, other) for one, other in pairs(run) if touches_cell(run, one)]


def weighty(run):
    """The pairs about which turned the run has another outcome than gone on."""
    due = outcome(gone_on(run.program(), run.inputs(), run.turns()))
    return [pair for pair in pairs(run) if outcome(turned_about(run, pair)) != due]
