"""The names and arguments that the interface lists, stage 5 to stage 9."""

import importlib
import inspect
import unittest

LISTED = {
    "order": {"next_ahead": "(run, number)", "is_ahead": "(run, one, other)", "clock": "(run, number)"},
    "ways": {"way_to": "(run, one, other)", "is_way": "(run, names)", "other_way": "(run, one, other)"},
    "pairs": {"pairs": "(run)"},
    "befores": {"keeps": "(befores, turns)", "lacks": "(run, befores)", "broken": "(run, pair)",
                "breaks": "(run, pair, turns)"},
    "replay": {"replayed": "(program, inputs, pairs, lengths, numbers=())"},
    "played": {"otherwise": "(run, program, inputs)"},
    "alike": {"is_again": "(run, other)", "are_alike": "(one, other)", "least_turns": "(run)"},
    "allruns": {"all_runs": "(program, inputs, *, most=2000)", "runs_paper": "(program, inputs, *, most=2000)",
                "is_runs_paper": "(program, inputs, paper)", "outcome": "(run)",
                "outcomes": "(program, inputs, *, most=2000)"},
    "turned": {"waited": "(run)", "turned": "(run, pair)", "reached": "(run, *, most=2000)"},
    "waited": {"waited": "(run)"},
    "races": {"races": "(run)", "weighty": "(run)"},
}


class ListedTest(unittest.TestCase):
    def test_names_and_arguments(self):
        for name, functions in LISTED.items():
            module = importlib.import_module("replaytravel." + name)
            for function, arguments in functions.items():
                with self.subTest(module=name, function=function):
                    self.assertEqual(str(inspect.signature(getattr(module, function))), arguments)


if __name__ == "__main__":
    unittest.main()
