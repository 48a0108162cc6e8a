"""Promise 47: papers that bar fewer switches, or a goal at all, told by anybody."""

import functools
import unittest

from replaytravel.fewest import fewest
from replaytravel.fewlooks import bars_fewer
from replaytravel.goals import comes_to
from replaytravel.machine import Machine
from tests.helpers import anything, drawn, program_of
from tests.slow import goals_of, some_program

NONE = [[], []]
PROGRAM = program_of("store 0, 1; load a, 1; check a 0 =", "load a, 0; store 1, a")
FALLS = ("falls", 0, 2)


@functools.cache
def all_machines(program, inputs):
    """Of each state a machine, and its steps as (thread, state behind)."""
    first = Machine(program, inputs)
    found, waiting = {}, [first]
    while waiting:
        machine = waiting.pop()
        if machine.state() in found:
            continue
        steps = []
        for thread in machine.ready():
            behind = machine.copied()
            behind.step(thread)
            steps.append((thread, behind.state()))
            waiting.append(behind)
        found[machine.state()] = (machine, steps)
    return found


def is_row_slowly(row):
    if type(row) is not tuple or len(row) != 3 or type(row[0]) is not str:
        return False
    return (row[1] is None or type(row[1]) is int) and type(row[2]) is int and row[2] >= 0


def bars_slowly(program, inputs, goal, number, paper):
    """By the words of the document, each of them looked at by itself."""
    if type(paper) is not list or not all(map(is_row_slowly, paper)):
        return False
    machines, first = all_machines(program, tuple(map(tuple, inputs))), (Machine(program, inputs).state(), None, 0)
    numbers = {row[:2]: row[2] for row in paper}
    if len(numbers) < len(paper) or first not in paper:
        return False
    held, steps = {first[:2]}, {}
    for state, last, many in paper:
        if state not in machines:
            return False
        machine, onward = machines[state]
        steps[state, last] = [(behind, thread, many + (last not in (None, thread))) for thread, behind in onward]
        if number is None or many < number:
            if comes_to(machine, goal):
                return False
            if not all(numbers.get(row[:2], row[2] + 1) <= row[2] for row in steps[state, last]):
                return False
    fresh = set(held)
    while fresh:
        fresh = {row[:2] for place in fresh for row in steps[place] if row[:2] in numbers} - held
        held |= fresh
    return held == set(numbers)


@functools.cache
def papers():
    """Small programs with goals, and what is told of them."""
    found = [(PROGRAM, NONE, goal, fewest(PROGRAM, NONE, goal)) for goal in (FALLS, ("cell", 1, 1), ("cell", 1, 2))]
    for seed in range(36):
        program = some_program(seed, phrases=2)
        inputs = [[1] for _ in program]
        goals = goals_of(program)
        goal = goals[drawn(seed, 1)[0] % len(goals)]
        told = fewest(program, inputs, goal)
        if len(told[2]) < 40:
            found.append((program, inputs, goal, told))
    return found


def least_paper(many):
    """A paper of PROGRAM that has nothing but what it needs to bar fewer than many switches."""
    rows = fewest(PROGRAM, NONE, FALLS)[2]
    return [row for row in rows if row[2] <= many]


class ToldTest(unittest.TestCase):
    def test_for_the_number_told_and_for_less(self):
        seen = set()
        for program, inputs, goal, (many, turns, paper) in papers():
            seen.add(many)
            if many is None:
                for number in (None, 0, 1, 5, 10 ** 30):
                    self.assertIs(bars_fewer(program, inputs, goal, number, paper), True)
                continue
            for number in range(-1, many + 1):
                self.assertIs(bars_fewer(program, inputs, goal, number, paper), True)
            for number in (many + 1, many + 2, 10 ** 30, None):
                self.assertIs(bars_fewer(program, inputs, goal, number, paper), False)
        self.assertEqual(seen, {None, 0, 1, 2})

    def test_in_any_order(self):
        for program, inputs, goal, (many, turns, paper) in papers():
            for rows in (paper[::-1], paper[1::2] + paper[::2], sorted(paper, key=str)):
                self.assertIs(bars_fewer(program, inputs, goal, many, rows), True)

    def test_what_is_handed_in_stays(self):
        many, turns, paper = fewest(PROGRAM, NONE, FALLS)
        before = repr(paper)
        self.assertIs(bars_fewer(paper=paper, number=many, goal=FALLS, inputs=NONE, program=PROGRAM), True)
        self.assertEqual((repr(paper), NONE), (before, [[], []]))


class SpoiltTest(unittest.TestCase):
    def looked_at(self, program, inputs, goal, number, paper):
        told = bars_fewer(program, inputs, goal, number, paper)
        self.assertIs(told, bars_slowly(program, inputs, goal, number, paper))
        return told

    def test_a_row_left_out(self):
        many = 0
        for program, inputs, goal, (number, turns, paper) in papers():
            for at in range(len(paper)):
                spoilt = paper[:at] + paper[at + 1:]
                told = self.looked_at(program, inputs, goal, number, spoilt)
                many += not told
                # One that isn't looked at may be left out, where none comes of it alone.
                self.assertTrue(not told or number is not None and paper[at][2] >= number)
        self.assertTrue(many > 300)

    def test_each_row_of_a_paper_that_has_no_more_than_it_needs(self):
        number, turns, paper = fewest(PROGRAM, NONE, ("cell", 9, 9))
        self.assertEqual(number, None)
        for at in range(len(paper)):
            self.assertIs(bars_fewer(PROGRAM, NONE, ("cell", 9, 9), None, paper[:at] + paper[at + 1:]), False)

    def test_a_place_twice(self):
        for program, inputs, goal, (number, turns, paper) in papers():
            for state, thread, many in paper:
                for other in (many, many + 1, max(many - 1, 0)):
                    for spoilt in (paper + [(state, thread, other)], [(state, thread, other)] + paper):
                        self.assertIs(bars_fewer(program, inputs, goal, number, spoilt), False)

    def test_a_number_changed(self):
        seen = set()
        for program, inputs, goal, (number, turns, paper) in papers():
            for at, (state, thread, many) in enumerate(paper):
                for other in (many + 1, many + 5, many - 1, 0, 10 ** 30):
                    spoilt = paper[:at] + [(state, thread, other)] + paper[at + 1:]
                    told = self.looked_at(program, inputs, goal, number, spoilt)
                    if number is None and many < other:
                        # There is always a row from which it comes with just as many.
                        self.assertIs(told, False)
                    seen.add((other > many, told))
        self.assertEqual(seen, {(True, True), (True, False), (False, True), (False, False)})

    def test_without_the_first_row(self):
        for program, inputs, goal, (number, turns, paper) in papers():
            first = Machine(program, inputs).state()
            at = paper.index((first, None, 0))
            rest = paper[:at] + paper[at + 1:]
            for rows in (rest, rest + [(first, 0, 0)] * ((first, 0) not in [row[:2] for row in rest]),
                         rest + [(first, None, 1)], [], [(first, None, 1)]):
                for told in (number, 0, -1):
                    self.assertIs(bars_fewer(program, inputs, goal, told, rows), False)

    def test_rows_that_do_not_come_of_it_by_steps(self):
        for program, inputs, goal, (number, turns, paper) in papers()[:16]:
            known = {row[:2] for row in paper}
            first = Machine(program, inputs).state()
            for state in ["", "no state", first + " ", *all_machines(program, tuple(map(tuple, inputs)))]:
                for thread in (None, -1, 0, 1, 2, 4):
                    if (state, thread) not in known:
                        self.looked_at(program, inputs, goal, number, paper + [(state, thread, 1)])
                        self.looked_at(program, inputs, goal, number, [(state, thread, 10 ** 30)] + paper)

    def test_two_that_come_of_each_other_and_not_of_the_first(self):
        # The second thread goes to and fro; of a paper for fewer than 0 nothing is looked at.
        program = program_of("store 0, 1", "go 1; go 0")
        first = Machine(program, NONE)
        lone = first.copied()
        lone.step(0)
        other = lone.copied()
        other.step(1)
        rows = [(lone.state(), 1, 0), (other.state(), 1, 0)]
        paper = [(first.state(), None, 0)]
        self.assertIs(bars_fewer(program, NONE, ("cell", 0, 1), 0, paper), True)
        self.assertIs(bars_fewer(program, NONE, ("cell", 0, 1), 0, paper + rows), False)
        self.assertIs(bars_fewer(program, NONE, ("cell", 0, 1), 0, rows + paper), False)
        self.assertIs(bars_fewer(program, NONE, ("cell", 0, 1), 0, rows + paper + [(lone.state(), 0, 7)]), True)

    def test_another_programs_states(self):
        number, turns, paper = fewest(PROGRAM, NONE, FALLS)
        other = program_of("store 0, 2; load a, 1; check a 0 =", "load a, 0; store 1, a")
        self.assertIs(bars_fewer(other, NONE, FALLS, number, paper), False)
        extra = Machine(program_of("store 9, 9", ""), NONE)
        extra.step(0)
        self.assertIs(bars_fewer(PROGRAM, NONE, FALLS, number, paper + [(extra.state(), 0, 3)]), False)
        program = program_of("input a; tell a", "")
        told = fewest(program, [[4], []], ("told", 0, 5))
        self.assertIs(bars_fewer(program, [[4], []], ("told", 0, 5), None, told[2]), True)
        self.assertIs(bars_fewer(program, [[5], []], ("told", 0, 5), None, told[2]), False)

    def test_another_goal(self):
        number, turns, paper = fewest(PROGRAM, NONE, ("cell", 9, 9))
        self.assertIs(bars_fewer(PROGRAM, NONE, FALLS, None, paper), False)
        self.assertIs(bars_fewer(PROGRAM, NONE, FALLS, 2, paper), True)
        self.assertIs(bars_fewer(PROGRAM, NONE, FALLS, 3, paper), False)


class AnythingTest(unittest.TestCase):
    def test_truths(self):
        number, turns, paper = fewest(PROGRAM, NONE, FALLS)
        for at, (state, thread, many) in enumerate(paper):
            spoilt = []
            if many in (0, 1):
                spoilt.append((state, thread, bool(many)))
            if thread in (0, 1):
                spoilt.append((state, bool(thread), many))
            for row in spoilt:
                self.assertIs(bars_fewer(PROGRAM, NONE, FALLS, number, paper[:at] + [row] + paper[at + 1:]), False)
                self.assertIs(bars_fewer(PROGRAM, NONE, FALLS, number, paper + [row]), False)
        self.assertIs(bars_fewer(PROGRAM, NONE, FALLS, 0, [(paper[0][0], None, False)]), False)

    def test_papers_of_all_kinds(self):
        for thing in anything():
            self.assertIs(bars_fewer(PROGRAM, NONE, FALLS, 0, thing), False)
            self.assertIs(bars_fewer(PROGRAM, NONE, FALLS, None, thing), False)

    def test_rows_of_all_kinds(self):
        number, turns, paper = fewest(PROGRAM, NONE, FALLS)
        for thing in anything():
            self.assertIs(bars_fewer(PROGRAM, NONE, FALLS, number, paper + [thing]), False)
            self.assertIs(bars_fewer(PROGRAM, NONE, FALLS, number, [thing]), False)

    def test_rows_with_things_of_all_kinds(self):
        number, turns, paper = fewest(PROGRAM, NONE, FALLS)
        state = paper[1][0]
        for thing in anything():
            for row in ((thing, 0, 0), (state, thing, 0), (state, 0, thing), (state, 0, thing, 0), (thing, thing, thing)):
                due = bars_slowly(PROGRAM, NONE, FALLS, number, paper[:1] + [row])
                self.assertIs(bars_fewer(PROGRAM, NONE, FALLS, number, paper[:1] + [row]), due)
                self.assertIs(bars_fewer(PROGRAM, NONE, FALLS, number, paper + [row]), False)

    def test_rows_that_are_lists_and_a_paper_that_is_a_tuple(self):
        number, turns, paper = fewest(PROGRAM, NONE, FALLS)
        self.assertIs(bars_fewer(PROGRAM, NONE, FALLS, number, tuple(paper)), False)
        self.assertIs(bars_fewer(PROGRAM, NONE, FALLS, number, [list(row) for row in paper]), False)
        self.assertIs(bars_fewer(PROGRAM, NONE, FALLS, number, {row: True for row in paper}), False)
        self.assertIs(bars_fewer(PROGRAM, NONE, FALLS, number, [row[:2] for row in paper]), False)
        self.assertIs(bars_fewer(PROGRAM, NONE, FALLS, number, [(*row, 0) for row in paper]), False)
        self.assertIs(bars_fewer(PROGRAM, NONE, FALLS, number, [(*row[:2], -1) for row in paper]), False)

    def test_drawn_numbers(self):
        seen = set()
        for seed in range(600):
            numbers = drawn(seed, 80)
            paper = [(state, thread, max(0, many - (numbers[at] % 9 == 0) + (numbers[at] % 13 == 0)))
                     for at, (state, thread, many) in enumerate(least_paper(numbers[79] % 4))]
            number = numbers[78] % 4
            due = bars_slowly(PROGRAM, NONE, FALLS, number, paper)
            self.assertIs(bars_fewer(PROGRAM, NONE, FALLS, number, paper), due)
            seen.add((number, due))
        self.assertTrue({(0, True), (1, True), (1, False), (2, True), (2, False), (3, False)} <= seen)


if __name__ == "__main__":
    unittest.main()
