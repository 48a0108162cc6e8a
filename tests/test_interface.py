"""The names and arguments that the interface lists, stage 5 to stage 9."""

import importlib
import inspect
import unittest

LISTED = {
    "order": {"next_ahead": "(run, number)", "is_ahead": "(run, one, other)", "clock": "(run, number)"},
    "ways": {"way_to": "(run, one, other)", "is_way": "(run, names)", "other_way": "(run, one, other)"},
    "pairs": {"pairs": "(run)"},
    "befores": {"keeps": "(befores, turns)", "lacks": "(run, befores)", "broken": "(run, pair)",
                "breaks": "(run, pair, turns)"},
    "replay": {"replayed": "(program, inputs, pairs, lengths, numbers=())"},
    "played": {"otherwise": "(run, program, inputs)"},
}


class ListedTest(unittest.TestCase):
    def test_names_and_arguments(self):
        for name, functions in LISTED.items():
            module = importlib.import_module("replaytravel." + name)
            for function, arguments in functions.items():
                with self.subTest(module=name, function=function):
                    self.assertEqual(str(inspect.signature(getattr(module, function))), arguments)


if __name__ == "__main__":
    unittest.main()
