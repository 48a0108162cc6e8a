"""Promise 44: steps done alone, by the sources that are told."""

import copy
import unittest

from replaytravel.alone import done_alone
from replaytravel.errors import NoSource
from replaytravel.expressions import reckoned
from replaytravel.why import sources, why, why_part
from tests.helpers import anything, drawn, run_of
from tests.slow import flow_run, long_run, some_run
from tests.test_why import parts_slowly, sources_slowly

PUTS = {"store": 2, "swap": 3, "send": 2, "tell": 1}


def worth_of(run, number, part):
    """What the step really got or put."""
    return run.steps()[number][4 if part == "got" else 5]


def alone_slowly(run, rows):
    """By the words of the document; the number of the step, as a text, that is refused."""
    program, steps, gave = run.program(), run.steps(), {}
    for number, part, told in rows:
        thread, at, word = steps[number][:3]
        row, due = program[thread][at], sources_slowly(run, number, part)
        if any(source not in due or source not in gave for source in told):
            return f"no source of {number}"
        puts = [gave[source] for source in told if source[1] == "put"]
        if word == "take" and not puts:
            return f"no source of {number}"
        letters = {program[thread][steps[k][1]][1]: gave[k, kind] for k, kind in told if kind == "got"}
        if part == "put":
            worth = reckoned(row[PUTS[word]], letters)
        elif word == "set":
            worth = reckoned(row[2], letters)
        elif word == "input":
            worth = steps[number][4]
        else:
            worth = puts[0] if puts else 0
        gave[number, part] = worth
    return [(number, part, gave[number, part]) for number, part, told in rows]


def some_runs():
    return [some_run(seed, most=16) for seed in range(40)] + [flow_run(seed) for seed in range(40)]


class WhysRowsTest(unittest.TestCase):
    def gives_it(self, run, rows):
        told = done_alone(run, rows)
        self.assertEqual(told, [(number, part, worth_of(run, number, part)) for number, part, sources_told in rows])
        self.assertIs(type(told), list)

    def test_of_cells(self):
        for run in some_runs():
            for time in range(len(run) + 1):
                for cell in (0, 1, 2):
                    rows = why(run, time, cell)
                    self.gives_it(run, rows)
                    if rows:
                        self.assertEqual(done_alone(run, rows)[-1][2], run.machine(time).cell(cell))

    def test_of_parts(self):
        for run in some_runs():
            for number, part in parts_slowly(run):
                self.gives_it(run, why_part(run, number, part))

    def test_of_all_parts_at_once(self):
        for run in some_runs():
            self.gives_it(run, [(number, part, sources(run, number, part)) for number, part in parts_slowly(run)])

    def test_of_a_long_run(self):
        run = long_run(3)
        for cell in range(10):
            self.gives_it(run, why(run, len(run), cell))
        for number, part in parts_slowly(run)[::11]:
            self.gives_it(run, why_part(run, number, part))

    def test_of_nothing(self):
        self.assertEqual(done_alone(run_of("go 0", turns=""), []), [])


class LeftOutTest(unittest.TestCase):
    def test_a_register_is_0(self):
        run = run_of("set a, 5; set b, 7; tell a b *; store a, b 1 +; set c, a b -", turns="00000")
        rows = [(0, "got", []), (1, "got", []), (2, "put", [(1, "got")]), (3, "put", [(0, "got")]), (4, "got", [(1, "got")])]
        self.assertEqual(done_alone(run, rows), [(0, "got", 5), (1, "got", 7), (2, "put", 0), (3, "put", 1), (4, "got", -7)])

    def test_a_load_and_a_swap_get_0(self):
        run = run_of("store 0, 5; load a, 0; swap b, 0, 6; load c, 0", turns="0000")
        rows = [(0, "put", []), (1, "got", []), (2, "got", []), (2, "put", []), (3, "got", [(2, "put")])]
        self.assertEqual(done_alone(run, rows), [(0, "put", 5), (1, "got", 0), (2, "got", 0), (2, "put", 6), (3, "got", 6)])

    def test_where_it_is_is_not_reckoned(self):
        # The register of the cell's number left out: what was put there comes all the same.
        run = run_of("set a, 3; store a, 8; load b, a; swap c, a, b", turns="0000")
        rows = [(1, "put", []), (2, "got", [(1, "put")]), (3, "got", [(1, "put")]), (3, "put", [(2, "got")])]
        self.assertEqual(done_alone(run, rows), [(1, "put", 8), (2, "got", 8), (3, "got", 8), (3, "put", 8)])

    def test_an_inputs_worth_is_the_runs(self):
        run = run_of("input a; input b; tell b", turns="000", inputs=[[4, -9]])
        self.assertEqual(done_alone(run, [(1, "got", []), (2, "put", [(1, "got")])]), [(1, "got", -9), (2, "put", -9)])

    def test_drawn_sources_left_out(self):
        kinds = set()
        for at, run in enumerate(some_runs()):
            for turn in range(4):
                numbers = iter(drawn(at * 5 + turn, 400))
                rows = [(number, part, [source for source in sources(run, number, part) if next(numbers) % 4])
                        for number, part in parts_slowly(run) if next(numbers) % 12]
                due = alone_slowly(run, rows)
                if isinstance(due, list):
                    self.assertEqual(done_alone(run, rows), due)
                    kinds.add("told")
                else:
                    with self.assertRaises(NoSource) as caught:
                        done_alone(run, rows)
                    self.assertEqual(f"no source of {caught.exception.asked}", due)
                    kinds.add("refused")
        self.assertEqual(kinds, {"told", "refused"})


class RefusedTest(unittest.TestCase):
    def setUp(self):
        self.run_of = run_of("set a, 5; send 0, a; store 1, a; swap b, 1, a", "take c, 0; tell c", turns="000011")
        self.rows = [(0, "got", []), (1, "put", [(0, "got")]), (2, "put", [(0, "got")]), (3, "got", [(2, "put")]),
                     (3, "put", [(0, "got")]), (4, "got", [(1, "put")]), (5, "put", [(4, "got")])]

    def refused(self, rows, asked):
        before = copy.deepcopy(rows)
        with self.assertRaises(NoSource) as caught:
            done_alone(self.run_of, rows)
        self.assertIs(type(caught.exception), NoSource)
        self.assertEqual(caught.exception.asked, asked)
        self.assertEqual(rows, before)

    def with_sources(self, at, told):
        return self.rows[:at] + [(*self.rows[at][:2], told)] + self.rows[at + 1:]

    def test_the_rows_themselves(self):
        self.assertEqual([row[2] for row in done_alone(self.run_of, self.rows)], [5] * 7)
        self.assertEqual(done_alone(rows=self.rows, run=self.run_of), done_alone(self.run_of, self.rows))

    def test_a_source_that_is_none_of_them(self):
        for at, (number, part, told) in enumerate(self.rows):
            for source in [(0, "got"), (1, "put"), (2, "put"), (3, "got"), (3, "put"), (4, "got"), (5, "put"), (0, "put"),
                           (1, "got"), (9, "put"), (-1, "got"), (10 ** 30, "put")]:
                if source not in told:
                    self.refused(self.with_sources(at, told + [source]), number)
                    self.refused(self.with_sources(at, [source] + told), number)

    def test_a_source_of_the_swaps_other_part(self):
        # What the swap gets doesn't hang on the register of what it lays there.
        self.refused(self.with_sources(3, [(0, "got"), (2, "put")]), 3)
        self.refused(self.with_sources(4, [(0, "got"), (2, "put")]), 3)

    def test_a_source_that_is_not_told_ahead(self):
        for at, (number, part, told) in enumerate(self.rows):
            first = [row for row in self.rows if (number, part) in row[2]]
            if first:
                self.refused(self.rows[:at] + self.rows[at + 1:], first[0][0])

    def test_a_take_that_has_not_its_put(self):
        self.refused(self.with_sources(5, []), 4)
        self.refused([(4, "got", [])], 4)
        # A register in its row is no put.
        run = run_of("send 0, 9; send 0, 8; set a, 0; take c, a", turns="0000")
        rows = [(0, "put", []), (2, "got", []), (3, "got", [(2, "got")])]
        with self.assertRaises(NoSource) as caught:
            done_alone(run, rows)
        self.assertEqual(caught.exception.asked, 3)
        self.assertEqual(done_alone(run, rows[:2] + [(3, "got", [(0, "put")])])[-1], (3, "got", 9))
        with self.assertRaises(NoSource):
            done_alone(run, [(0, "put", []), (1, "put", []), (3, "got", [(1, "put")])])

    def test_the_first_of_several(self):
        self.refused([(0, "got", []), (2, "put", [(1, "put")]), (4, "got", [])], 2)
        self.refused([(0, "got", []), (3, "got", [(2, "put")]), (3, "put", [(9, "got")]), (4, "got", [])], 3)
        self.refused([(4, "got", []), (5, "put", [(0, "got")])], 4)

    def test_truths_and_other_things_are_no_sources(self):
        self.refused(self.with_sources(1, [(False, "got")]), 1)
        self.refused(self.with_sources(5, [(True, "put")]), 4)
        for thing in anything():
            self.refused(self.with_sources(1, [thing]), 1)
            self.refused(self.with_sources(1, [(0, "got"), thing]), 1)
            self.refused(self.with_sources(1, [(thing, "got")]) if thing != 0 or thing is False else self.with_sources(5, []),
                         1 if thing != 0 or thing is False else 4)

    def test_the_list_is_the_askers(self):
        before = repr(done_alone(self.run_of, self.rows))
        done_alone(self.run_of, self.rows).clear()
        self.assertEqual(repr(done_alone(self.run_of, self.rows)), before)


if __name__ == "__main__":
    unittest.main()
