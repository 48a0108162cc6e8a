"""Recordings written as texts, and read."""

from replaytravel.errors import NoText, NoThread, NotReady
from replaytravel.keptlooks import cost_of, do_keep
from replaytravel.programs import MOST_INPUTS
from replaytravel.programtexts import read_program, show_program
from replaytravel.recordings import Recording
from replaytravel.runs import Run
from replaytravel.turns import packed, unpacked
from replaytravel.wholes import whole_of
from replaytravel.worths import worth_of


def show_words(word, things):
    """A row of a word and its things."""
    return " ".join([word] + [str(thing) for thing in things])


def show_recording(recording):
    """The text of a recording."""
    run = recording.run()
    rows = [show_words("recording", [recording.bound()]), show_program(run.program())]
    rows.extend([show_words("inputs", worths) for worths in run.inputs()])
    rows.append(show_words("turns", [packed(run.turns())]))
    rows.extend([show_words("pair", one + other) for one, other in recording.pairs()])
    rows.append(show_words("kept", recording.kept()))
    return "\n".join(rows)


def word_at(rows, at):
    """The first word of a row, or nothing where there are no rows any more."""
    return rows[at].split(" ")[0] if at < len(rows) else ""


def words_at(rows, at, word):
    """The words behind the first one of a row that must begin with a word."""
    if word_at(rows, at) != word:
        raise NoText(at)
    return rows[at].split(" ")[1:]


def numbers_at(rows, at, word, of_text):
    """The numbers behind the first word of a row, each read by a function."""
    numbers = [of_text(part) for part in words_at(rows, at, word)]
    if None in numbers:
        raise NoText(at)
    return numbers


def end_of_program(rows):
    """The number of the first row of inputs, or how many rows there are."""
    at = 1
    while at < len(rows) and word_at(rows, at) != "inputs":
        at += 1
    return at


def program_in(rows):
    """The program whose rows stand behind the first one."""
    try:
        return read_program("\n".join(rows[1:end_of_program(rows)]))
    except NoText as refusal:
        raise NoText(1 + refusal.nth) from None


def bound_in(rows):
    """The bound that the first row tells."""
    numbers = numbers_at(rows, 0, "recording", whole_of)
    if len(numbers) != 1:
        raise NoText(0)
    return numbers[0]


def inputs_at(rows, at):
    """The worths of a row of inputs."""
    worths = numbers_at(rows, at, "inputs", worth_of)
    if len(worths) > MOST_INPUTS:
        raise NoText(at)
    return worths


def turns_in_row(rows, at):
    """The turns of the row that tells them, whether they can be done or not."""
    text = " ".join(words_at(rows, at, "turns"))
    try:
        return unpacked(text)
    except NoText:
        raise NoText(at) from None


def pair_at(rows, at):
    """The two names of a row pair, whether they are a pair or not."""
    numbers = numbers_at(rows, at, "pair", whole_of)
    if len(numbers) != 4:
        raise NoText(at)
    one, nth, other, mth = numbers
    return ((one, nth), (other, mth))


def pairs_at(rows, at):
    """What the rows pair from one on tell."""
    told = []
    while word_at(rows, at + len(told)) == "pair":
        told.append(pair_at(rows, at + len(told)))
    return told


def times_at(rows, at):
    """What the row kept, the last one, tells."""
    times = numbers_at(rows, at, "kept", whole_of)
    if not times:
        raise NoText(at)
    if at + 1 < len(rows):
        raise NoText(at + 1)
    return tuple(times)


def run_told(program, inputs, turns, at):
    """The run of turns that the row numbered at tells."""
    try:
        return Run(program, inputs, turns)
    except (NotReady, NoThread):
        raise NoText(at) from None


def check_pairs(told, due, at):
    """Refuses pairs told from the row numbered at on that aren't, place by place, those due."""
    for place, pair in enumerate(told):
        if place == len(due) or pair != due[place]:
            raise NoText(at + place)
    if len(told) < len(due):
        raise NoText(at + len(told))


def keep_as_told(recording, times, at):
    """Gives a recording the kept times that the row numbered at tells."""
    run = recording.run()
    if not do_keep(run, recording.bound(), times) or cost_of(run, times) != cost_of(run, recording.kept()):
        raise NoText(at)
    # Others may be just as cheap as those that were found.
    recording.times = times


def read_recording(text):
    """The recording that a text is, or NoText at the first row that is wrong."""
    if not isinstance(text, str):
        raise NoText(0)
    rows = text.split("\n")
    bound = bound_in(rows)
    program = program_in(rows)
    first = end_of_program(rows)
    inputs = [inputs_at(rows, first + thread) for thread in range(len(program))]
    at = first + len(program)
    turns = turns_in_row(rows, at)
    told = pairs_at(rows, at + 1)
    last = at + 1 + len(told)
    times = times_at(rows, last)
    # Whether they hang together is looked at only where each row is one in its place.
    recording = Recording(run_told(program, inputs, turns, at), bound=bound)
    check_pairs(told, recording.pairs(), at + 1)
    keep_as_told(recording, times, last)
    return recording
