"""The desk: told rows, it keeps a program and a recording, and answers with texts."""

from replaytravel.answers import ANSWERS
from replaytravel.bounds import BOUND
from replaytravel.deskrows import need_of, things_of, word_of
from replaytravel.errors import NoRow, NotYet


class Desk:
    """A program with inputs, a recording of it with its traveller, and the log of what was said."""

    def __init__(self):
        self.threads = None
        self.given = []
        self.limit = BOUND
        self.recording = None
        self.traveller = None
        self.entries = []

    def say(self, row):
        """Tells the desk a row: its answer."""
        word = word_of(row)
        if word is None:
            raise NoRow(row)
        self.entries.append((word, "in"))
        try:
            return self.answered(word, row)
        finally:
            self.entries.append((word, "out"))

    def log(self):
        """The first words of the rows, as they went in and out."""
        return list(self.entries)

    def answered(self, word, row):
        """The answer to a row of this first word."""
        things = things_of(row, word)
        need = need_of(word)
        if (need == "program" and self.threads is None) or (need == "recording" and self.recording is None):
            raise NotYet(need)
        answer = ANSWERS[word]
        return answer(self, *things)
