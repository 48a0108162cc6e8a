"""Steps done alone: the worths that come of told parts and their sources."""

from replaytravel.deeds import PUTS
from replaytravel.errors import NoSource
from replaytravel.expressions import reckoned
from replaytravel.wholes import is_whole
from replaytravel.why import all_sources, row_done


def is_part(thing):
    """Whether anything is a tuple of a number, no truth, and a text."""
    return isinstance(thing, tuple) and len(thing) == 2 and is_whole(thing[0]) and isinstance(thing[1], str)


def puts_in(told):
    """The puts among told sources."""
    return [source for source in told if source[1] == "put"]


def check_sources(run, number, told, due, gave):
    """Refuses told sources of which one is none, or gave nothing ahead, or that lack a take's put."""
    for source in told:
        # Only what is a part may be looked up: anything might be told.
        if not is_part(source) or source not in due or source not in gave:
            raise NoSource(number)
    if run.done[number][2] == "take" and not puts_in(told):
        raise NoSource(number)


def worth_alone(run, number, part, told, gave):
    """The worth of a part, by what its told sources gave."""
    row = row_done(run, number)
    held = {row_done(run, source[0])[1]: gave[source] for source in told if source[1] == "got"}
    if part == "put":
        return reckoned(row[PUTS[row[0]]], held)
    if row[0] == "set":
        return reckoned(row[2], held)
    if row[0] == "input":
        return run.done[number][4]
    puts = puts_in(told)
    return gave[puts[0]] if puts else 0


def done_alone(run, rows):
    """(number, part, worth) of rows of parts and their sources."""
    known = all_sources(run)
    gave = {}
    for number, part, told in rows:
        check_sources(run, number, told, known[(number, part)], gave)
        gave[(number, part)] = worth_alone(run, number, part, told, gave)
    return [(number, part, gave[(number, part)]) for number, part, told in rows]
