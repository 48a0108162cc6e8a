"""Why: from which steps a worth comes."""

from replaytravel.asking import writes_of
from replaytravel.errors import NoStep
from replaytravel.expressions import is_letter
from replaytravel.machine import check_place
from replaytravel.programs import SHAPES


def row_done(run, number):
    """The row that a step did."""
    thread, at, word, touch, got, put = run.done[number]
    return run.program()[thread][at]


def parts_of(step):
    """The parts that a step has."""
    thread, at, word, touch, got, put = step
    return [part for part, worth in (("got", got), ("put", put)) if worth is not None]


def letters_of(row, part):
    """The letters that a part of a row's step hangs on."""
    expressions = [thing for kind, thing in zip(SHAPES[row[0]], row[1:]) if kind == "e"]
    # What a swap gets hangs on where it swaps, not on what it lays there.
    if row[0] == "swap" and part == "got":
        expressions = expressions[:1]
    return [item for e in expressions for item in e if is_letter(item)]


def all_sources(run):
    """Of each part of a run's steps, in their order, its sources."""
    reads = run.standing().reads
    lasts = {}
    found = {}
    for number, step in enumerate(run.done):
        thread = step[0]
        row = row_done(run, number)
        for part in parts_of(step):
            own = [(thread, letter) for letter in letters_of(row, part)]
            parts = [(lasts[place], "got") for place in own if place in lasts]
            if part == "got":
                parts.extend([(one, "put") for one in reads[number]])
            found[(number, part)] = sorted(set(parts))
        if step[4] is not None:
            lasts[(thread, row[1])] = number
    return found


def check_part(run, number, part):
    """Refuses what is no number of a step, and a part that the step hasn't."""
    run.check_number(number)
    if part not in parts_of(run.done[number]):
        raise NoStep(number)


def sources(run, number, part):
    """The sources of a part."""
    check_part(run, number, part)
    return all_sources(run)[(number, part)]


def rows_behind(run, parts):
    """The rows of parts and of all that they come from, sorted."""
    known = all_sources(run)
    found = {}
    waiting = list(parts)
    while waiting:
        part = waiting.pop()
        if part not in found:
            found[part] = known[part]
            waiting.extend(known[part])
    return [(number, part, found[(number, part)]) for number, part in sorted(list(found))]


def why_part(run, number, part):
    """(number, part, sources) of a part and of all that it comes from."""
    check_part(run, number, part)
    return rows_behind(run, [(number, part)])


def why(run, time, cell):
    """(number, part, sources) of all from which comes what a cell holds at a time."""
    run.check_time(time)
    check_place("cell", cell)
    writes = [number for number in writes_of(run, cell) if number < time]
    return rows_behind(run, [(number, "put") for number in writes[-1:]])
