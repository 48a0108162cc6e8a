"""Whole numbers: what is one, and how they are written."""


def is_whole(thing):
    """Whether anything is a whole number; a truth is none."""
    return isinstance(thing, int) and not isinstance(thing, bool)


def is_below(thing, many):
    """Whether anything is a whole number from 0 to just below many."""
    return is_whole(thing) and 0 <= thing < many


def whole_of(text):
    """The whole number from 0 on that a text is, or None where it is none.

    More than nine figures are never needed, and Python itself bounds how many
    it reads, so that they are told apart ahead of reading.
    """
    if not (text.isascii() and text.isdigit() and len(text) <= 9):
        return None
    if text[0] == "0" and text != "0":
        return None
    return int(text)
