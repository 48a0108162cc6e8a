"""Promise 2: whatever is listed, with its things by name in another order; what was handed in stays as it was."""

import copy
import importlib
import unittest

from replaytravel.fewest import fewest
from replaytravel.kept import kept_times
from replaytravel.machine import Machine
from replaytravel.pairs import pairs
from replaytravel.recordings import Recording
from replaytravel.recordingtexts import show_recording
from replaytravel.runs import Run
from replaytravel.why import why
from tests.helpers import program_of
from tests.test_interface import CLASSES, LISTED

PROGRAM = program_of("input a; load b, 0; store 0, b a +; lock 0; free 0; send 0, b; tell b",
                     "load b, 0; swap c, 0, b 1 +; lock 0; free 0; take d, 0; tell d")
INPUTS = [[4], []]
TURNS = [0, 0, 1, 0, 0, 0, 1, 1, 1, 0, 1, 0, 1]
GOAL = ("told", 1, 4)


def run_anew():
    return Run(PROGRAM, copy.deepcopy(INPUTS), list(TURNS))


def things():
    """Of each name that arguments have, a thing to hand in."""
    run = run_anew()
    return {
        "n": 70000, "sign": "-", "registers": {"a": 3, "b": 4}, "e": ("a", "b", "-"), "thing": PROGRAM, "row": 1,
        "program": PROGRAM, "inputs": copy.deepcopy(INPUTS), "turns": list(TURNS), "numbers": [1, 0, 5, 3], "run": run,
        "number": 6, "name": (0, 2), "names": [(0, 0), (0, 1)], "time": 5, "befores": pairs(run), "pair": pairs(run)[0],
        "pairs": pairs(run), "lengths": [7, 6], "paper": [[], [0]], "step": run.steps()[3], "bound": 9, "times": (0, 4),
        "cost": 3, "recording": Recording(run, bound=9), "text": "", "cell": 0, "worth": 1, "since": 2, "until": 9, "lock": 0,
        "part": "put", "rows": why(run, 13, 0), "machine": run.machine(6), "goal": GOAL, "most": 1500, "one": 1, "other": 3,
        "thread": 1, "letter": "b", "seen": None, "asked": lambda machine: machine.state(),
    }


# Where a name stands for another kind of thing than elsewhere.
OTHERS = {
    ("worths", "told_by"): lambda: {"one": 7, "other": 9},
    ("expressions", "read_expression"): lambda: {"text": "a b -"},
    ("programtexts", "show_row"): lambda: {"row": ("swap", "a", (5,), ("b", 1, "+"))},
    ("programtexts", "read_program"): lambda: {"text": "thread\ngo 0"},
    ("turns", "unpacked"): lambda: {"text": "0*2 1"},
    ("alike", "is_again"): lambda: {"other": Run(PROGRAM, INPUTS, TURNS[:5])},
    ("alike", "are_alike"): lambda: {"one": run_anew(), "other": Run(PROGRAM, INPUTS, TURNS[:5])},
    ("keptlooks", "bars_cheaper"): lambda: {"paper": kept_times(run_anew(), 9)[2], "cost": kept_times(run_anew(), 9)[0]},
    ("recordingtexts", "read_recording"): lambda: {"text": show_recording(Recording(run_anew(), bound=9))},
    ("fewlooks", "bars_fewer"): lambda: {"number": 1, "paper": fewest(PROGRAM, INPUTS, GOAL)[2]},
    ("traveller", "to_next"): lambda: {"thread": 1, "row": 5},
    ("desk", "say"): lambda: {"row": "program\nthread\ngo 0"},
}


def shown(thing):
    """Anything as a text that tells all that can be seen of it."""
    if isinstance(thing, Machine):
        return "machine " + thing.state()
    if isinstance(thing, Run):
        return f"run {thing.program()} {thing.inputs()} {thing.turns()}"
    if isinstance(thing, Recording):
        return "recording " + show_recording(thing)
    if isinstance(thing, (list, tuple)):
        return str([type(thing).__name__, *map(shown, thing)])
    return repr(thing)


def words_of(arguments):
    """The names of arguments that may stand in their places, and of those by name alone."""
    words = [part.strip() for part in arguments.strip("()").split(", ") if part.strip(" )")]
    names = [word.split("=")[0] for word in words]
    at = names.index("*") if "*" in names else len(names)
    return names[:at], names[at + 1:]


class ByNameTest(unittest.TestCase):
    def told_alike(self, ask_anew, key, arguments):
        """Asks anew with things in their places, then by name in another order."""
        known = {**things(), **OTHERS.get(key, dict)()}
        placed, named = words_of(arguments)
        before = {name: shown(known[name]) for name in placed + named}
        in_places = ask_anew()(*[known[name] for name in placed], **{name: known[name] for name in named})
        by_name = ask_anew()(**{name: known[name] for name in reversed(placed + named)})
        self.assertEqual(shown(in_places), shown(by_name))
        self.assertEqual({name: shown(known[name]) for name in placed + named}, before)
        return in_places

    def test_functions(self):
        many = 0
        for name, functions in LISTED.items():
            module = importlib.import_module("replaytravel." + name)
            for function, arguments in functions.items():
                with self.subTest(module=name, function=function):
                    ask = getattr(module, function)
                    told = self.told_alike(lambda: ask, (name, function), arguments)
                    many += told is not None
        self.assertTrue(many > 55)

    def test_classes(self):
        for (name, word), (arguments, methods) in CLASSES.items():
            made = getattr(importlib.import_module("replaytravel." + name), word)
            placed, named = words_of(arguments)

            def anew():
                known = things()
                return made(**{part: known[part] for part in placed + named})

            def gone(thing):
                # A traveller that can go to either side.
                if word == "Traveller":
                    thing.go(8)
                return thing

            for method, taken in methods.items():
                with self.subTest(made=word, method=method):
                    self.told_alike(lambda: getattr(gone(anew()), method), (name, method), taken)


if __name__ == "__main__":
    unittest.main()
