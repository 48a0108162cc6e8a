"""The rows that a desk is told: which there are, and the things that their words are."""

from replaytravel.errors import NoRow
from replaytravel.expressions import is_letter
from replaytravel.programs import MOST_INPUTS
from replaytravel.wholes import whole_of
from replaytravel.worths import worth_of

# The things behind each word: n a number, w a worth, r a letter, t a text of words,
# p a text behind a line feed; behind inputs and draw stand as many as there are.
FORMS = {
    "program": "p",
    "inputs": "n",
    "bound": "n",
    "run": "t",
    "draw": "",
    "read": "p",
    "text": "",
    "turns": "",
    "pairs": "",
    "races": "",
    "weighty": "",
    "kept": "",
    "go": "n",
    "on": "",
    "back": "",
    "next": "nn",
    "last": "nn",
    "cell": "n",
    "register": "nr",
    "threads": "",
    "wrote": "n",
    "why": "n",
    "waits": "",
}

# What a row needs that isn't one of these is a recording.
NEEDS = {"program": None, "read": None, "bound": None, "inputs": "program", "run": "program", "draw": "program"}


def word_of(said):
    """The first word of anything that is a row by it, else None."""
    if not isinstance(said, str):
        return None
    word = said.split("\n")[0].split(" ")[0]
    return word if word in FORMS else None


def need_of(word):
    """What there has to be for a row: a program, a recording, or None."""
    return NEEDS.get(word, "recording")


def text_behind(said, word):
    """The text behind the line feed of a row that is nothing but a word ahead of it."""
    head, feed, text = said.partition("\n")
    if head != word or feed == "":
        raise NoRow(said)
    return text


def form_for(word, many):
    """The things that should stand behind a word, where so many words do."""
    if word == "inputs":
        return "n" + "w" * min(many - 1, MOST_INPUTS)
    return "n" * many if word == "draw" else FORMS[word]


def thing_of(kind, text):
    """The thing that a word of a row is, or None where it is none."""
    if kind == "r":
        return text if is_letter(text) else None
    return worth_of(text) if kind == "w" else whole_of(text)


def things_of(said, word):
    """The things of a row that has this first word, or NoRow where it is none."""
    if FORMS[word] == "p":
        return [text_behind(said, word)]
    words = said.split(" ")[1:]
    if "\n" in said or "" in words:
        raise NoRow(said)
    if FORMS[word] == "t":
        if not words:
            raise NoRow(said)
        return [" ".join(words)]
    form = form_for(word, len(words))
    things = [thing_of(kind, part) for kind, part in zip(form, words)]
    if len(words) != len(form) or None in things:
        raise NoRow(said)
    return things
