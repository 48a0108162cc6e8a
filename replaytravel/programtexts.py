"""Programs written as texts, and read."""

from replaytravel.errors import NoText
from replaytravel.expressions import expression_of, is_letter, show_expression
from replaytravel.programs import MOST_ROWS, MOST_THREADS, SHAPES
from replaytravel.wholes import whole_of

HEAD = "thread"


def show_thing(kind, thing):
    """The text of a thing of a row."""
    return show_expression(thing) if kind == "e" else str(thing)


def show_row(row):
    """The text of a row."""
    things = [show_thing(kind, thing) for kind, thing in zip(SHAPES[row[0]], row[1:])]
    return row[0] + " " + ", ".join(things)


def show_program(program):
    """The text of a program."""
    rows = []
    for thread in program:
        rows.append(HEAD)
        rows.extend([show_row(row) for row in thread])
    return "\n".join(rows)


def thing_of(kind, text):
    """The thing of a row that a text is, or None where it is none."""
    if kind == "r":
        return text if is_letter(text) else None
    if kind == "e":
        return expression_of(text)
    return whole_of(text)


def row_of(text):
    """The row that a text is, wherever it goes to, or None where it is none."""
    word, blank, behind = text.partition(" ")
    shape = SHAPES.get(word, "")
    texts = behind.split(", ")
    if len(texts) != len(shape):
        return None
    things = [thing_of(kind, part) for kind, part in zip(shape, texts)]
    return None if None in things else (word, *things)


def goes_within(row, many):
    """Whether a row goes to none beyond the end of its thread of many rows."""
    return SHAPES[row[0]][-1] != "k" or row[-1] <= many


def rows_behind(texts, nth):
    """How many rows, good or not, stand behind one up to the next thread."""
    many = 0
    while nth + many + 1 < len(texts) and texts[nth + many + 1] != HEAD:
        many += 1
    return many


def read_program(text):
    """The program that a text is, or NoText at the first row that is wrong."""
    texts = text.split("\n")
    threads = []
    many = 0
    for nth, part in enumerate(texts):
        if part == HEAD:
            if len(threads) == MOST_THREADS:
                raise NoText(nth)
            threads.append([])
            many = rows_behind(texts, nth)
        else:
            row = row_of(part)
            if row is None or not threads or len(threads[-1]) == MOST_ROWS or not goes_within(row, many):
                raise NoText(nth)
            threads[-1].append(row)
    return tuple([tuple(rows) for rows in threads])
