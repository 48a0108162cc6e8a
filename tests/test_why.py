"""Promises 42 and 43: the sources of parts, and why a cell holds what it holds."""

import unittest

from replaytravel.errors import NoPlace, NoStep, NoTime
from replaytravel.why import sources, why, why_part
from tests.helpers import LETTERS, anything, is_number_below, run_of
from tests.slow import WRITES, flow_run, long_run, some_run

EXPRESSIONS = {"set": (2,), "load": (2,), "store": (1, 2), "swap": (2, 3), "send": (1, 2), "take": (2,), "input": (),
               "tell": (1,)}


def parts_slowly(run):
    """All parts of a run's steps, sorted."""
    found = []
    for number, step in enumerate(run.steps()):
        found += [(number, "got")] * (step[4] is not None) + [(number, "put")] * (step[5] is not None)
    return found


def sources_slowly(run, number, part):
    """By the words of the document."""
    steps, program = run.steps(), run.program()
    thread, at, word, touch, got, put = steps[number]
    row = program[thread][at]
    items = EXPRESSIONS[word]
    if (word, part) == ("swap", "got"):
        items = (2,)
    found = set()
    for letter in [item for place in items for item in row[place] if isinstance(item, str) and item in LETTERS]:
        laid = [k for k in range(number) if steps[k][0] == thread and steps[k][4] is not None
                and program[thread][steps[k][1]][1] == letter]
        found |= {(k, "got") for k in laid[-1:]}
    if part == "got" and word in ("load", "swap"):
        found |= {(k, "put") for k in [k for k in range(number) if steps[k][2] in WRITES and steps[k][3] == touch][-1:]}
    if word == "take":
        nth = len([k for k in range(number) if steps[k][2:4] == ("take", touch)])
        found.add(([k for k in range(number) if steps[k][2:4] == ("send", touch)][nth], "put"))
    return sorted(found)


def why_slowly(run, parts):
    found, waiting = {}, list(parts)
    while waiting:
        part = waiting.pop()
        found[part] = sources_slowly(run, *part)
        waiting += [source for source in found[part] if source not in found]
    return [(number, part, found[number, part]) for number, part in sorted(found)]


class SourcesTest(unittest.TestCase):
    def test_beside_the_words_of_the_document(self):
        for run in [some_run(seed, most=16) for seed in range(60)] + [flow_run(seed) for seed in range(40)]:
            for number, part in parts_slowly(run):
                with self.subTest(turns=run.turns(), number=number, part=part):
                    told = sources(run, number, part)
                    self.assertEqual(told, sources_slowly(run, number, part))
                    self.assertIs(type(told), list)

    def test_a_long_run(self):
        run = long_run(2, most=120)
        for number, part in parts_slowly(run):
            self.assertEqual(sources(run, number, part), sources_slowly(run, number, part))

    def test_each_word(self):
        run = run_of(
            "input a; set b, a a +; store b, a; load c, b; swap c, b, a b +; send a, b; take d, a; tell c d +; lock 0; "
            "free 0; check 1; if 0, 0; go 13; set a, a; load e, a", turns="0" * 15, inputs=[[3]])
        told = {
            (0, "got"): [],
            (1, "got"): [(0, "got")],
            (2, "put"): [(0, "got"), (1, "got")],
            (3, "got"): [(1, "got"), (2, "put")],
            (4, "got"): [(1, "got"), (2, "put")],
            (4, "put"): [(0, "got"), (1, "got")],
            (5, "put"): [(0, "got"), (1, "got")],
            (6, "got"): [(0, "got"), (5, "put")],
            (7, "put"): [(4, "got"), (6, "got")],
            (13, "got"): [(0, "got")],
            (14, "got"): [(13, "got")],
        }
        self.assertEqual(parts_slowly(run), sorted(told))
        for (number, part), due in told.items():
            self.assertEqual(sources(run, number, part), due)

    def test_registers_never_laid_and_cells_never_written(self):
        run = run_of("set a, b c +; load d, e; swap f, g 1 +, h; tell i; store j, k", turns="00000")
        self.assertEqual([sources(run, number, part) for number, part in parts_slowly(run)], [[]] * 6)

    def test_a_register_of_another_thread_is_another_one(self):
        run = run_of("set a, 5", "tell a", turns="01")
        self.assertEqual(sources(run, 1, "put"), [])

    def test_the_last_one_ahead(self):
        run = run_of("set a, 1; set a, a 1 +; load a, a; tell a", "store 2, 7; store 2, 8; store 2, 9", turns="0011001")
        self.assertEqual([step[2] for step in run.steps()], ["set", "set", "store", "store", "load", "tell", "store"])
        self.assertEqual(sources(run, 1, "got"), [(0, "got")])
        self.assertEqual(sources(run, 4, "got"), [(1, "got"), (3, "put")])
        self.assertEqual(sources(run, 5, "put"), [(4, "got")])

    def test_each_once(self):
        run = run_of("set a, 1; store a, a a + a *; tell a a +", turns="000")
        self.assertEqual(sources(run, 1, "put"), [(0, "got")])
        self.assertEqual(sources(run, 2, "put"), [(0, "got")])

    def test_a_swap_of_its_own_register(self):
        run = run_of("swap a, 0, a 1 +; swap a, 0, a 1 +; swap a, a, a", turns="000")
        self.assertEqual(sources(run, 1, "got"), [(0, "put")])
        self.assertEqual(sources(run, 1, "put"), [(0, "got")])
        self.assertEqual(sources(run, 2, "got"), [(1, "got")])
        self.assertEqual(sources(run, 2, "put"), [(1, "got")])

    def test_takes_in_their_order(self):
        run = run_of("send 0, 5; send 0, 6; send 1, 7", "take a, 0; take a, 1; take a, 0", turns="000111")
        self.assertEqual([sources(run, number, "got") for number in (3, 4, 5)], [[(0, "put")], [(2, "put")], [(1, "put")]])

    def test_a_worth_of_zero_is_a_part_too(self):
        run = run_of("set a, 0; store 0, 0; load b, 0; tell b", turns="0000")
        self.assertEqual(sources(run, 3, "put"), [(2, "got")])
        self.assertEqual(sources(run, 2, "got"), [(1, "put")])


class RefusedTest(unittest.TestCase):
    def refused(self, refusal, asked, ask):
        with self.assertRaises(refusal) as caught:
            ask()
        self.assertIs(type(caught.exception), refusal)
        self.assertIs(caught.exception.asked, asked)

    def test_numbers_of_anything(self):
        run = run_of("swap a, 0, 1; swap a, 0, 2", turns="00")
        for asked in (sources, why_part):
            for part in ("got", "put"):
                for thing in anything() + [2, -2]:
                    with self.subTest(kind=type(thing).__name__):
                        if is_number_below(thing, 2):
                            asked(run, thing, part)
                        else:
                            self.refused(NoStep, thing, lambda: asked(run, thing, part))
            self.refused(NoStep, 0, lambda: asked(run_of("go 0", turns=""), 0, "got"))

    def test_parts_that_the_step_has_not(self):
        run = run_of("set a, 1; load a, 0; store 0, 1; swap a, 0, 1; lock 0; free 0; send 0, 1; take a, 0; input a; tell 1; "
                     "check 1; if 0, 0; go 13; check 0", turns="0" * 14, inputs=[[4]])
        known = parts_slowly(run)
        self.assertEqual(len(known), 9)
        for asked in (sources, why_part):
            for number in range(len(run)):
                for part in ("got", "put"):
                    if (number, part) in known:
                        asked(run, number, part)
                    else:
                        self.refused(NoStep, number, lambda: asked(run, number, part))

    def test_parts_of_anything(self):
        run = run_of("swap a, 0, 1", turns="0")
        for asked in (sources, why_part):
            for thing in anything():
                self.refused(NoStep, 0, lambda: asked(run, 0, thing))

    def test_falls_have_none(self):
        for row in ("load a, 64", "store -1, 3", "swap a, 64, 2", "send 8, 1", "take a, 8", "input a", "check 0"):
            run = run_of(row, turns="0")
            for part in ("got", "put"):
                self.refused(NoStep, 0, lambda: sources(run, 0, part))

    def test_times_and_cells_of_anything(self):
        run = run_of("store 0, 1; tell 2", turns="00")
        for thing in anything() + [3, -1]:
            with self.subTest(kind=type(thing).__name__):
                if is_number_below(thing, 3):
                    why(run, thing, 0)
                else:
                    self.refused(NoTime, thing, lambda: why(run, thing, 0))
                    self.refused(NoTime, thing, lambda: why(run, thing, 64))
                    self.refused(NoTime, thing, lambda: why(run, thing, "a"))
                if is_number_below(thing, 64):
                    why(run, 0, thing)
                else:
                    self.refused(NoPlace, thing, lambda: why(run, 1, thing))


class WhyTest(unittest.TestCase):
    def test_beside_the_words_of_the_document(self):
        many = 0
        for seed in range(60):
            run = flow_run(seed) if seed % 2 else some_run(seed, most=16)
            for time in range(len(run) + 1):
                for cell in (0, 1, 2):
                    writes = [k for k in range(time) if run.steps()[k][2] in WRITES and run.steps()[k][3] == ("cell", cell)]
                    with self.subTest(seed=seed, time=time, cell=cell):
                        told = why(run, time, cell)
                        self.assertEqual(told, why_slowly(run, [(k, "put") for k in writes[-1:]]))
                        many += len(told) > 5
            for number, part in parts_slowly(run):
                self.assertEqual(why_part(run, number, part), why_slowly(run, [(number, part)]))
        self.assertTrue(many > 80)

    def test_a_run_of_three_hundred(self):
        run = long_run(6)
        for time, cell in ((300, 0), (300, 1), (150, 1), (300, 4)):
            writes = [k for k in range(time) if run.steps()[k][2] in WRITES and run.steps()[k][3] == ("cell", cell)]
            self.assertEqual(why(run, time, cell), why_slowly(run, [(k, "put") for k in writes[-1:]]))
        self.assertTrue(len(why(run, 300, 1)) > 20)

    def test_each_time(self):
        run = run_of("set a, 4; store 0, a; tell a; swap b, 0, a b +; tell 1", turns="00000")
        first = [(0, "got", []), (1, "put", [(0, "got")])]
        behind = [(0, "got", []), (3, "put", [(0, "got")])]
        self.assertEqual([why(run, time, 0) for time in range(6)], [[], [], first, first, behind, behind])
        self.assertEqual([why(run, time, 1) for time in range(6)], [[]] * 6)

    def test_both_parts_of_a_swap(self):
        run = run_of("swap a, 0, 3; swap a, 0, 4; store 1, a", turns="000")
        self.assertEqual(why(run, 3, 1), [(0, "put", []), (1, "got", [(0, "put")]), (2, "put", [(1, "got")])])
        run = run_of("swap a, 0, 3; load b, 0; store 1, a b +", turns="000")
        self.assertEqual(why(run, 3, 1), [
            (0, "got", []), (0, "put", []), (1, "got", [(0, "put")]), (2, "put", [(0, "got"), (1, "got")])])

    def test_across_threads_and_lines(self):
        run = run_of("input a; send 0, a", "take b, 0; store 5, b 1 +", turns="0011", inputs=[[9], []])
        self.assertEqual(why(run, 4, 5), [
            (0, "got", []), (1, "put", [(0, "got")]), (2, "got", [(1, "put")]), (3, "put", [(2, "got")])])
        self.assertEqual(why(cell=5, time=3, run=run), [])

    def test_by_name(self):
        run = run_of("set a, 4; tell a", turns="00")
        self.assertEqual(why_part(part="put", number=1, run=run), [(0, "got", []), (1, "put", [(0, "got")])])
        self.assertEqual(sources(part="put", number=1, run=run), [(0, "got")])

    def test_the_lists_are_the_askers(self):
        run = run_of("set a, 4; store 0, a; load a, 0; tell a", turns="0000")
        for ask in (lambda: why(run, 4, 0), lambda: why_part(run, 3, "put"), lambda: sources(run, 3, "put")):
            before = repr(ask())
            told = ask()
            for row in told:
                if len(row) == 3:
                    row[2].append(1)
            told.clear()
            self.assertEqual(repr(ask()), before)


if __name__ == "__main__":
    unittest.main()
