"""The names and arguments that the interface lists."""

import importlib
import inspect
import unittest

LISTED = {
    "worths": {"brought": "(n)", "told_by": "(sign, one, other)"},
    "expressions": {"is_expression": "(thing)", "reckoned": "(e, registers)", "show_expression": "(e)",
                    "read_expression": "(text)"},
    "programs": {"is_program": "(thing)"},
    "programtexts": {"show_row": "(row)", "show_program": "(program)", "read_program": "(text)"},
    "turns": {"drawn_turns": "(program, inputs, numbers, *, most=400)", "packed": "(turns)", "unpacked": "(text)",
              "switches": "(turns)"},
    "order": {"next_ahead": "(run, number)", "is_ahead": "(run, one, other)", "clock": "(run, number)"},
    "ways": {"way_to": "(run, one, other)", "is_way": "(run, names)", "other_way": "(run, one, other)"},
    "pairs": {"pairs": "(run)"},
    "befores": {"keeps": "(befores, turns)", "lacks": "(run, befores)", "broken": "(run, pair)",
                "breaks": "(run, pair, turns)"},
    "replay": {"replayed": "(program, inputs, pairs, lengths, numbers=())"},
    "played": {"otherwise": "(run, program, inputs)"},
    "alike": {"is_again": "(run, other)", "are_alike": "(one, other)", "least_turns": "(run)"},
    "allruns": {"all_runs": "(program, inputs, *, most=2000)", "runs_paper": "(program, inputs, *, most=2000)",
                "is_runs_paper": "(program, inputs, paper)", "outcome": "(run)",
                "outcomes": "(program, inputs, *, most=2000)"},
    "turned": {"waited": "(run)", "turned": "(run, pair)", "reached": "(run, *, most=2000)"},
    "waited": {"waited": "(run)"},
    "races": {"races": "(run)", "weighty": "(run)"},
    "kept": {"heft": "(step)", "size_at": "(run, time)", "kept_times": "(run, bound)"},
    "keptlooks": {"do_keep": "(run, bound, times)", "cost_of": "(run, times)",
                  "bars_cheaper": "(run, bound, cost, paper)"},
    "recordingtexts": {"show_recording": "(recording)", "read_recording": "(text)"},
    "asking": {"last_write": "(recording, time, cell)", "next_write": "(recording, time, cell)",
               "changes": "(recording, cell)", "first_when": "(recording, cell, worth, *, since=0)",
               "last_when": "(recording, cell, worth, *, until=None)", "readers": "(recording, number)",
               "held_by": "(recording, time, lock)", "waits_at": "(recording, time)", "rings_at": "(recording, time)"},
    "why": {"sources": "(run, number, part)", "why": "(run, time, cell)", "why_part": "(run, number, part)"},
    "alone": {"done_alone": "(run, rows)"},
    "goals": {"comes_to": "(machine, goal)"},
    "fewest": {"fewest": "(program, inputs, goal, *, most=2000)"},
    "fewlooks": {"bars_fewer": "(program, inputs, goal, number, paper)"},
}

# Of each class how it is made, and its methods, each in the class itself.
CLASSES = {
    ("machine", "Machine"): ("(program, inputs)", {
        "word": "(thread)", "ready": "()", "step": "(thread)", "row": "(thread)", "cell": "(number)", "left": "(thread)",
        "worth": "(thread, letter)", "holder": "(lock)", "line": "(number)", "told": "(thread)", "end": "()",
        "waits": "()", "rings": "()", "state": "()", "copied": "()"}),
    ("runs", "Run"): ("(program, inputs, turns)", {
        "program": "()", "inputs": "()", "turns": "()", "steps": "()", "names": "()", "number": "(name)",
        "machine": "(time)", "is_over": "()"}),
    ("recordings", "Recording"): ("(run, *, bound=60)", {"run": "()", "bound": "()", "pairs": "()", "kept": "()"}),
    ("traveller", "Traveller"): ("(recording, *, seen=None)", {
        "at": "()", "now": "()", "go": "(time)", "on": "()", "back": "()", "to_next": "(thread, row)",
        "to_last": "(thread, row)", "look": "(time, asked)"}),
    ("desk", "Desk"): ("()", {"say": "(row)", "log": "()"}),
}


class ListedTest(unittest.TestCase):
    def test_names_and_arguments(self):
        for name, functions in LISTED.items():
            module = importlib.import_module("replaytravel." + name)
            for function, arguments in functions.items():
                with self.subTest(module=name, function=function):
                    self.assertEqual(str(inspect.signature(getattr(module, function))), arguments)

    def test_classes_and_their_methods(self):
        for (name, word), (arguments, methods) in CLASSES.items():
            made = getattr(importlib.import_module("replaytravel." + name), word)
            self.assertEqual(str(inspect.signature(made)), arguments)
            for method, taken in methods.items():
                with self.subTest(made=word, method=method):
                    self.assertIn(method, vars(made))
                    known = [str(part) for part in inspect.signature(vars(made)[method]).parameters.values()]
                    self.assertEqual(f"({', '.join(known[1:])})", taken)


if __name__ == "__main__":
    unittest.main()
