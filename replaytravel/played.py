"""A run played to another program: what goes otherwise."""

from replaytravel.machine import Machine


def came_of(machine, thread):
    """The step that a thread does, or the word of what it is where it isn't ready."""
    word = machine.word(thread)
    return machine.step(thread) if word == "ready" else word


def otherwise(run, program, inputs):
    """(number, due, came) of the first turn that goes otherwise, or None."""
    machine = Machine(program, inputs)
    for number, due in enumerate(run.steps()):
        came = came_of(machine, due[0])
        if came != due:
            return (number, due, came)
    words_due = tuple(run.last.words())
    words_came = tuple(machine.words())
    return None if words_came == words_due else (len(run), words_due, words_came)
