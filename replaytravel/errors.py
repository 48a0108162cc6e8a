"""The refusals, each made of its fields.

No message is worded of the fields: a field may be anything, and what Python
can't show (a number of too many figures) must be refused all the same.
"""


class NoText(ValueError):
    """The row numbered nth of a text is none, or can't stand there."""

    def __init__(self, nth):
        self.nth = nth


class NotAhead(ValueError):
    """The two are no before: the one isn't ahead of the other."""

    def __init__(self, one, other):
        self.one = one
        self.other = other


class NoRow(ValueError):
    """What was said is none of the desk's rows."""

    def __init__(self, said):
        self.said = said


class NotReady(RuntimeError):
    """The thread who can't have the turn nth: it is what."""

    def __init__(self, nth, who, what):
        self.nth = nth
        self.who = who
        self.what = what


class NoReplay(RuntimeError):
    """No thread may go on: stopped are the names that would be next."""

    def __init__(self, stopped):
        self.stopped = stopped


class NoPlace(IndexError):
    """There is no such cell, lock, line or letter."""

    def __init__(self, asked):
        self.asked = asked


class NoTime(IndexError):
    """There is no such time."""

    def __init__(self, asked):
        self.asked = asked


class NoStep(KeyError):
    """There is no step of this name or number."""

    def __init__(self, asked):
        self.asked = asked


class NoPair(KeyError):
    """The two are no pair of the run."""

    def __init__(self, one, other):
        self.one = one
        self.other = other


class NoThread(LookupError):
    """There is no thread of this number."""

    def __init__(self, asked):
        self.asked = asked


class NoSource(LookupError):
    """The step has a source that is none, or lacks the one it needs."""

    def __init__(self, asked):
        self.asked = asked


class TooMany(OverflowError):
    """There are more than most."""

    def __init__(self, most):
        self.most = most


class TooLong(ArithmeticError):
    """Some turns go beyond the limit."""

    def __init__(self, limit):
        self.limit = limit


class NotYet(Exception):
    """The desk lacks what a row needs: a program or a recording."""

    def __init__(self, what):
        self.what = what
