"""Expressions: tuples of worths, letters and signs, reckoned with a pile."""

from replaytravel.errors import NoText
from replaytravel.worths import SIGNS, is_worth, told_by, worth_of

LETTERS = "abcdefghijklmnop"
MOST_ITEMS = 15


def is_letter(thing):
    """Whether anything is the letter of a place that a thread has to itself."""
    return isinstance(thing, str) and len(thing) == 1 and thing in LETTERS


def is_sign(thing):
    """Whether anything is one of the nine signs."""
    return isinstance(thing, str) and thing in SIGNS


def leaves_one(items):
    """Whether the signs always find two on the pile, and one is left."""
    height = 0
    for item in items:
        if is_sign(item):
            if height < 2:
                return False
            height -= 1
        else:
            height += 1
    return height == 1


def is_expression(thing):
    """Whether anything is an expression."""
    if not isinstance(thing, tuple) or len(thing) > MOST_ITEMS:
        return False
    if not all([is_worth(item) or is_letter(item) or is_sign(item) for item in thing]):
        return False
    return leaves_one(thing)


def reckoned(e, registers):
    """The worth of an expression; letters that the dict lacks hold 0."""
    pile = []
    for item in e:
        if is_sign(item):
            other = pile.pop()
            one = pile.pop()
            pile.append(told_by(item, one, other))
        elif isinstance(item, str):
            pile.append(registers.get(item, 0))
        else:
            pile.append(item)
    return pile[-1]


def show_expression(e):
    """The text of an expression."""
    return " ".join([str(item) for item in e])


def item_of(word):
    """The worth that a word is, else the word itself."""
    worth = worth_of(word)
    return word if worth is None else worth


def expression_of(text):
    """The expression that a text is, or None where it is none."""
    e = tuple([item_of(word) for word in text.split(" ")])
    return e if is_expression(e) else None


def read_expression(text):
    """The expression that a text is, or NoText."""
    e = expression_of(text)
    if e is None:
        raise NoText(0)
    return e
