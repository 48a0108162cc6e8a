"""Worths, the numbers of the machine, and the signs that reckon with them."""

from replaytravel.wholes import is_whole, whole_of


def brought(n):
    """The worth that a whole number is brought to by rounds of 65536."""
    return (n + 32768) % 65536 - 32768


def is_worth(thing):
    """Whether anything is a worth."""
    return is_whole(thing) and -32768 <= thing <= 32767


def worth_of(text):
    """The worth that a text is, or None where it is none."""
    if not text.startswith("-"):
        number = whole_of(text)
    elif text == "-0":
        number = None
    else:
        size = whole_of(text[1:])
        number = None if size is None else -size
    return number if is_worth(number) else None


def plus(one, other):
    """The sum."""
    return one + other


def minus(one, other):
    """The difference."""
    return one - other


def times(one, other):
    """The product."""
    return one * other


def quotient(one, other):
    """The quotient rounded down, 0 where the second is 0."""
    return 0 if other == 0 else one // other


def rest(one, other):
    """What the quotient leaves of the first, 0 where the second is 0."""
    return 0 if other == 0 else one - other * (one // other)


def is_less(one, other):
    """1 where the first is less, else 0."""
    return 1 if one < other else 0


def is_same(one, other):
    """1 where both are alike, else 0."""
    return 1 if one == other else 0


def bits_of_both(one, other):
    """The number with the bits that both have."""
    return one & other


def bits_of_one(one, other):
    """The number with the bits that just one of them has."""
    return one ^ other


SIGNS = {
    "+": plus,
    "-": minus,
    "*": times,
    "/": quotient,
    "#": rest,
    "<": is_less,
    "=": is_same,
    "&": bits_of_both,
    "^": bits_of_one,
}


def told_by(sign, one, other):
    """The worth that a sign tells of two worths."""
    action = SIGNS[sign]
    return brought(action(one, other))
