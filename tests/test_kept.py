"""Promises 33 to 35: hefts, sizes, kept times, their cost and the paper that bars cheaper ones."""

import itertools
import unittest

from replaytravel.errors import NoTime
from replaytravel.kept import heft, kept_times, size_at
from replaytravel.keptlooks import bars_cheaper, cost_of, do_keep
from replaytravel.machine import Machine
from replaytravel.runs import Run
from tests.helpers import LETTERS, anything, drawn, is_number_below, program_of, run_of
from tests.slow import long_run, some_run

HEFTS = {"set": 1, "tell": 1, "check": 1, "if": 1, "go": 1, "load": 2, "store": 2, "swap": 3, "send": 3, "take": 3,
         "lock": 4, "free": 4, "input": 5, "falls": 1}
BOUNDS = (0, 1, 2, 3, 4, 5, 6, 8, 11, 60, 999999999)
# Two steps of heft 2, one of 4, one of 1, one of 3: sizes 8, 8, 9, 10, 10, 11.
PLAIN = ("load a, 0; store 0, 5; lock 1; tell 1; send 2, 7",)


def plain_run():
    return run_of(*PLAIN, turns="00000")


def size_slowly(machine, threads):
    size = 8
    for cell in range(64):
        size += machine.cell(cell) != 0
    for thread in range(threads):
        size += len([letter for letter in LETTERS if machine.worth(thread, letter) != 0])
    for number in range(8):
        size += (machine.holder(number) is not None) + len(machine.line(number))
    return size


def sizes_slowly(run):
    machine, threads = run.machine(0), len(run.program())
    sizes = [size_slowly(machine, threads)]
    for thread in run.turns():
        machine.step(thread)
        sizes.append(size_slowly(machine, threads))
    return sizes


def does_slowly(run, bound, times):
    if not times or times[0] != 0 or list(times) != sorted(set(times)) or times[-1] > len(run):
        return False
    hefts = [HEFTS[step[2]] for step in run.steps()]
    for time in range(len(run) + 1):
        last = [kept for kept in times if kept <= time][-1]
        if sum(hefts[last:time]) > bound:
            return False
    return True


def cost_slowly(run, times):
    sizes = sizes_slowly(run)
    return sum(sizes[time] for time in times) - sizes[0]


def bars_slowly(run, bound, cost, paper):
    sizes, hefts = sizes_slowly(run) + [0], [HEFTS[step[2]] for step in run.steps()]
    if len(paper) != len(run) + 2 or paper[0] != 0 or paper[-1] < cost:
        return False
    upto = [sum(hefts[:number]) for number in range(len(run) + 1)]
    for u in range(1, len(run) + 2):
        for s in range(u):
            if upto[u - 1] - upto[s] <= bound and paper[u] > paper[s] + sizes[u]:
                return False
    return True


def all_times(run):
    """All kept times of a run, whether they do for a bound or not."""
    rest = range(1, len(run) + 1)
    return [(0, *some) for many in range(len(run) + 1) for some in itertools.combinations(rest, many)]


class HeftTest(unittest.TestCase):
    def test_each_word(self):
        run = run_of(
            "set a, 1; load a, 0; store 0, 1; swap a, 0, 2; lock 0; free 0; send 0, 1; take a, 0; input a; tell a; "
            "check 1; if 0, 0; if 1, 13; go 14", turns="0" * 14, inputs=[[3]])
        words = [step[2] for step in run.steps()]
        self.assertEqual(set(words), set(HEFTS) - {"falls"})
        self.assertEqual([heft(step) for step in run.steps()], [HEFTS[word] for word in words])

    def test_falls_of_each_word_that_falls(self):
        for row in ("check 0", "load a, 64", "store -1, 1", "swap a, 99, 1", "lock 8", "free 8", "free 0", "send 8, 1",
                    "take a, -1", "input a"):
            with self.subTest(row=row):
                step = run_of(row, turns="0").steps()[0]
                self.assertEqual((step[2], heft(step)), ("falls", 1))
                self.assertEqual(heft(step=step), 1)


class SizeTest(unittest.TestCase):
    def test_at_the_first_time_it_is_eight(self):
        for run in (plain_run(), run_of("", turns=""), run_of("input a", "tell 1", turns="01", inputs=[[5, 6], [7]])):
            self.assertEqual(size_at(run, 0), 8)

    def test_cells(self):
        run = run_of("store 0, 1; store 63, -1; store 0, 2; store 5, 0; store 0, 0", turns="00000")
        self.assertEqual([size_at(run, time) for time in range(6)], [8, 9, 10, 10, 10, 9])

    def test_registers(self):
        run = run_of("set a, 1; set p, -3; set a, 0; set b, 0", "set a, 4; load a, 0", turns="010001")
        self.assertEqual([size_at(run, time) for time in range(7)], [8, 9, 10, 11, 10, 10, 9])

    def test_locks_and_lines(self):
        run = run_of("lock 0; lock 7; free 0", "send 0, 0; send 0, 5; send 7, 1; take a, 0", turns="0110101")
        self.assertEqual([size_at(run, time) for time in range(8)], [8, 9, 10, 11, 12, 13, 12, 11])

    def test_tellings_rows_and_falls_count_for_nothing(self):
        run = run_of("tell 5; go 2; check 0", turns="000")
        self.assertEqual([size_at(run, time) for time in range(4)], [8, 8, 8, 8])
        self.assertEqual(size_at(time=1, run=run), 8)

    def test_drawn_runs(self):
        for seed in range(60):
            run = some_run(seed, most=30)
            self.assertEqual([size_at(run, time) for time in range(len(run) + 1)], sizes_slowly(run))

    def test_times_of_anything(self):
        for run in (run_of("", turns=""), plain_run()):
            for thing in anything() + [5, 6, 400, -2, 1.5, 0.0]:
                with self.subTest(kind=type(thing).__name__, many=len(run)):
                    if is_number_below(thing, len(run) + 1):
                        size_at(run, thing)
                        continue
                    with self.assertRaises(NoTime) as caught:
                        size_at(run, thing)
                    self.assertIs(type(caught.exception), NoTime)
                    self.assertIs(caught.exception.asked, thing)


class DoKeepTest(unittest.TestCase):
    def test_just_as_heavy_and_one_heavier(self):
        run = plain_run()
        # The hefts are 2, 2, 4, 1, 3.
        for bound, times, does in (
            (12, (0,), True), (11, (0,), False),
            (8, (0, 5), False), (9, (0, 5), True),
            (4, (0, 3), True), (4, (0, 2), False), (8, (0, 2), True), (7, (0, 2), False),
            (3, (0, 3), False), (3, (0, 2, 4), False), (4, (0, 2, 4), True), (3, (0, 3, 4), False), (4, (0, 3, 4), True),
            (1, (0, 1, 2, 3, 5), True), (1, (0, 1, 2, 3, 4), False), (3, (0, 1, 2, 3, 4), True),
            (0, (0, 1, 2, 3, 4, 5), True), (0, (0, 1, 2, 3, 4), False), (0, (0, 1, 2, 4, 5), False),
            (999999999, (0,), True), (999999999, (0, 1, 5), True),
        ):
            with self.subTest(bound=bound, times=times):
                self.assertIs(do_keep(run, bound, times), does)

    def test_the_steps_behind_the_last_kept_time_count(self):
        run = run_of("store 0, 1; store 0, 2; lock 0; input a", turns="0000", inputs=[[1]])
        self.assertIs(do_keep(run, 9, (0, 2)), True)
        self.assertIs(do_keep(run, 8, (0, 2)), False)
        self.assertIs(do_keep(run, 8, (0, 3)), True)

    def test_no_kept_times(self):
        run = plain_run()
        for times in ((), (1,), (1, 2, 3, 4, 5), (1, 0), (0, 0), (0, 1, 1), (0, 2, 1), (0, 3, 2, 4), (0, 6), (0, 5, 6),
                      (0, 400), (0, 10 ** 30), (-1,), (-1, 0), (0, -1), (0, 1, 2, 3, 4, 5, 5), (0, 1, 2, 3, 4, 5, 6)):
            for bound in (0, 3, 60, 999999999):
                with self.subTest(times=times, bound=bound):
                    self.assertIs(do_keep(run, bound, times), False)

    def test_no_turns(self):
        run = run_of("go 0", turns="")
        for bound in (0, 60):
            self.assertIs(do_keep(run, bound, (0,)), True)
            self.assertIs(do_keep(run, bound, (0, 1)), False)
            self.assertIs(do_keep(run, bound, ()), False)

    def test_beside_the_words_of_the_document(self):
        for seed in range(40):
            run = some_run(seed, most=6)
            for bound in BOUNDS:
                for times in all_times(run):
                    self.assertIs(do_keep(run, bound, times), does_slowly(run, bound, times))

    def test_by_name(self):
        self.assertIs(do_keep(times=(0,), bound=12, run=plain_run()), True)


class CostTest(unittest.TestCase):
    def test_the_size_at_0_is_left_out(self):
        run = plain_run()
        self.assertEqual(sizes_slowly(run), [8, 8, 9, 10, 10, 11])
        for times, cost in (((0,), 0), ((0, 1), 8), ((0, 5), 11), ((0, 2, 3), 19), ((0, 1, 2, 3, 4, 5), 48)):
            self.assertEqual(cost_of(run, times), cost)
        self.assertEqual(cost_of(times=(0, 2), run=run), 9)
        self.assertEqual(cost_of(run_of("", turns=""), (0,)), 0)

    def test_drawn_runs(self):
        for seed in range(30):
            run = some_run(seed, most=5)
            for times in all_times(run):
                self.assertEqual(cost_of(run, times), cost_slowly(run, times))


class KeptTimesTest(unittest.TestCase):
    def told(self, run, bound):
        """What is told, looked at by the words of the document."""
        told = kept_times(run, bound)
        cost, times, paper = told
        self.assertEqual([type(told), type(cost), type(times), type(paper)], [tuple, int, tuple, list])
        self.assertTrue(does_slowly(run, bound, times))
        self.assertIs(do_keep(run, bound, times), True)
        self.assertEqual(cost_slowly(run, times), cost)
        self.assertEqual(cost_of(run, times), cost)
        self.assertIs(bars_cheaper(run, bound, cost, paper), True)
        return told

    def test_no_turns(self):
        for bound in (0, 60, 999999999):
            self.assertEqual(self.told(run_of("go 0", turns=""), bound)[:2], (0, (0,)))

    def test_told(self):
        run = plain_run()
        self.assertEqual(self.told(run, 12)[:2], (0, (0,)))
        self.assertEqual(self.told(run, 11)[:2], (8, (0, 1)))
        self.assertEqual(self.told(run, 8)[:2], (9, (0, 2)))
        self.assertEqual(self.told(run, 0)[:2], (48, (0, 1, 2, 3, 4, 5)))
        self.assertEqual(self.told(run, 999999999)[:2], (0, (0,)))

    def test_beside_all_times(self):
        seen = set()
        for seed in range(50):
            run = some_run(seed, most=8)
            known = [(cost_slowly(run, some), some) for some in all_times(run)]
            for bound in BOUNDS:
                with self.subTest(seed=seed, bound=bound):
                    cost, times, paper = self.told(run, bound)
                    self.assertEqual(cost, min([least for least, some in known if does_slowly(run, bound, some)]))
                    self.assertTrue(bars_slowly(run, bound, cost, paper))
                    seen.add((len(run), len(times)))
        self.assertTrue(len(seen) > 20)

    def test_hundreds_of_turns(self):
        for seed in range(3):
            run = long_run(seed)
            self.assertTrue(len(run) > 280)
            last = None
            for bound in (0, 5, 17, 60, 300, 999999999):
                cost, times, paper = self.told(run, bound)
                self.assertTrue(bars_slowly(run, bound, cost, paper))
                # What is allowed to be redone for more never costs more.
                self.assertTrue(last is None or cost <= last)
                last = cost
            self.assertEqual(last, 0)

    def test_the_paper_is_the_askers(self):
        run = plain_run()
        before = repr(kept_times(run, 4))
        kept_times(run, 4)[2].clear()
        self.assertEqual(repr(kept_times(bound=4, run=run)), before)
        self.assertEqual(run.turns(), [0] * 5)


class BarsTest(unittest.TestCase):
    def papers(self):
        for seed in range(18):
            run = some_run(seed, most=9)
            for bound in (0, 3, 7, 60):
                yield run, bound, kept_times(run, bound)

    def test_any_number_at_most_the_cost(self):
        for run, bound, (cost, times, paper) in self.papers():
            for number in (cost, cost - 1, cost - 5, 0, -1, -(10 ** 30)):
                self.assertIs(bars_cheaper(run, bound, number, paper), number <= cost)
            for number in (cost + 1, cost + 9, 10 ** 30):
                self.assertIs(bars_cheaper(run, bound, number, paper), False)

    def test_one_more_where_it_must_not_be(self):
        for run, bound, (cost, times, paper) in self.papers():
            for at in range(len(paper)):
                spoilt = paper[:at] + [paper[at] + 1] + paper[at + 1:]
                self.assertIs(bars_cheaper(run, bound, cost, spoilt), bars_slowly(run, bound, cost, spoilt))
                self.assertIs(bars_cheaper(run, bound, 0, spoilt), False)

    def test_less_is_looked_at_for_what_comes_of_it(self):
        for run, bound, (cost, times, paper) in self.papers():
            for at in range(len(paper)):
                for by in (1, 4):
                    other = paper[:at] + [paper[at] - by] + paper[at + 1:]
                    for number in (0, cost - by, cost):
                        due = bars_slowly(run, bound, number, other)
                        self.assertIs(bars_cheaper(run, bound, number, other), due)

    def test_too_short_too_long_and_another_first_one(self):
        for run, bound, (cost, times, paper) in self.papers():
            for at in range(len(paper)):
                self.assertIs(bars_cheaper(run, bound, 0, paper[:at] + paper[at + 1:]), False)
                self.assertIs(bars_cheaper(run, bound, 0, paper[:at] + [paper[at]] + paper[at:]), False)
            self.assertIs(bars_cheaper(run, bound, 0, paper + [0]), False)
            self.assertIs(bars_cheaper(run, bound, 0, []), False)
            for first in (1, -1, 10 ** 30):
                self.assertIs(bars_cheaper(run, bound, -(10 ** 40), [first] + paper[1:]), False)

    def test_nothing_but_noughts(self):
        run = plain_run()
        self.assertIs(bars_cheaper(run, 4, 0, [0] * 7), True)
        self.assertIs(bars_cheaper(run, 4, 1, [0] * 7), False)
        self.assertIs(bars_cheaper(run, 4, 0, [0] * 6 + [-1]), False)

    def test_the_one_more_has_no_size(self):
        # From 0 the end is come to within 12 and not within 11.
        run = plain_run()
        self.assertIs(bars_cheaper(run, 12, 0, [0, 8, 9, 10, 10, 11, 0]), True)
        self.assertIs(bars_cheaper(run, 12, 1, [0, 8, 9, 10, 10, 11, 1]), False)
        self.assertIs(bars_cheaper(run, 11, 8, [0, 8, 9, 10, 10, 11, 8]), True)
        self.assertIs(bars_cheaper(run, 11, 9, [0, 8, 9, 10, 10, 11, 9]), False)

    def test_no_turns(self):
        run = run_of("", turns="")
        self.assertIs(bars_cheaper(run, 0, 0, [0, 0]), True)
        self.assertIs(bars_cheaper(run, 0, 1, [0, 1]), False)
        self.assertIs(bars_cheaper(run, 0, 0, [0]), False)

    def test_anybodys_papers(self):
        many = 0
        for seed in range(400):
            run, numbers = some_run(seed % 20, most=4), drawn(seed, 12)
            paper = [0] + [number % 17 for number in numbers[:len(run) + 1]]
            for bound in (0, 2, 5):
                due = bars_slowly(run, bound, numbers[10] % 9, paper)
                self.assertIs(bars_cheaper(run, bound, numbers[10] % 9, paper), due)
                many += due
        self.assertTrue(many > 60)

    def test_a_truth_is_no_whole_number(self):
        run = plain_run()
        self.assertIs(bars_cheaper(run, 4, 0, [False] + [0] * 6), False)

    def test_what_is_handed_in_stays(self):
        run, paper = plain_run(), [0] * 7
        self.assertIs(bars_cheaper(paper=paper, cost=0, bound=4, run=run), True)
        self.assertEqual(paper, [0] * 7)
        self.assertTrue(run == Run(program_of(*PLAIN), [[]], [0] * 5))
        self.assertTrue(run.machine(0) == Machine(program_of(*PLAIN), [[]]))


if __name__ == "__main__":
    unittest.main()
