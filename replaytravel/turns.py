"""Turns: drawn by numbers, packed as texts, their switches."""

from replaytravel.bounds import MOST
from replaytravel.errors import NoText
from replaytravel.machine import Machine
from replaytravel.programs import MOST_THREADS
from replaytravel.wholes import is_below, whole_of

NONE = "-"


def chosen(numbers, nth, those):
    """Which of those the number numbered nth chooses; the first where it is missing."""
    number = numbers[nth] if nth < len(numbers) else 0
    return those[number % len(those)]


def drawn_on(machine, turns, numbers, most):
    """The turns done on a machine, and behind them those that numbers draw; it does these."""
    drawn = list(turns)
    ready = machine.ready()
    while ready and len(drawn) < most:
        thread = chosen(numbers, len(drawn), ready)
        machine.step(thread)
        drawn.append(thread)
        ready = machine.ready()
    return drawn


def drawn_turns(program, inputs, numbers, *, most=MOST):
    """The turns that numbers draw among the ready threads."""
    return drawn_on(Machine(program, inputs), [], numbers, most)


def stretches(turns):
    """Like turns side by side, as lists of a thread and how many."""
    rows = []
    for thread in turns:
        if rows and rows[-1][0] == thread:
            rows[-1][1] += 1
        else:
            rows.append([thread, 1])
    return rows


def packed(turns):
    """The text of turns."""
    if len(turns) == 0:
        return NONE
    words = [f"{thread}" if many == 1 else f"{thread}*{many}" for thread, many in stretches(turns)]
    return " ".join(words)


def turns_of(word):
    """The turns that a word of a packed text is, or none where it is no such."""
    thread, star, many = word.partition("*")
    number = whole_of(thread)
    times = whole_of(many) if star else 1
    if not is_below(number, MOST_THREADS) or not is_below(times, MOST + 1):
        return []
    return [number] * times


def unpacked(text):
    """The turns that a text is, or NoText."""
    turns = []
    for word in [] if text == NONE else text.split(" "):
        turns.extend(turns_of(word))
        if len(turns) > MOST:
            raise NoText(0)
    # Written anew, whatever isn't written as it must be shows itself.
    if packed(turns) != text:
        raise NoText(0)
    return turns


def switches(turns):
    """How many turns have another thread than the one just ahead."""
    return len([thread for thread, ahead in zip(turns[1:], turns) if thread != ahead])
