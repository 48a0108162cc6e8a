"""Programs: tuples of threads, these of rows, these of a word and its things."""

from replaytravel.expressions import is_expression, is_letter
from replaytravel.wholes import is_below

MOST_THREADS = 4
MOST_ROWS = 40
MOST_INPUTS = 60

# The things behind each word: r a letter, e an expression, k a row to go to.
SHAPES = {
    "set": "re",
    "load": "re",
    "store": "ee",
    "swap": "ree",
    "lock": "e",
    "free": "e",
    "send": "ee",
    "take": "re",
    "input": "r",
    "tell": "e",
    "check": "e",
    "if": "ek",
    "go": "k",
}


def fits(kind, thing, many):
    """Whether anything fits its place in a row of a thread of many rows."""
    if kind == "r":
        return is_letter(thing)
    if kind == "e":
        return is_expression(thing)
    # Behind the last row a thread may go, too: there it ends.
    return is_below(thing, many + 1)


def is_row(thing, many):
    """Whether anything is a row of a thread of many rows."""
    if not isinstance(thing, tuple) or not thing or not isinstance(thing[0], str):
        return False
    shape = SHAPES.get(thing[0], "")
    if shape == "" or len(thing) != len(shape) + 1:
        return False
    return all([fits(kind, part, many) for kind, part in zip(shape, thing[1:])])


def is_thread(thing):
    """Whether anything is a thread."""
    if not isinstance(thing, tuple) or len(thing) > MOST_ROWS:
        return False
    return all([is_row(part, len(thing)) for part in thing])


def is_program(thing):
    """Whether anything is a program."""
    if not isinstance(thing, tuple) or not 1 <= len(thing) <= MOST_THREADS:
        return False
    return all([is_thread(part) for part in thing])
