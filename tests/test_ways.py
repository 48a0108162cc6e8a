"""Promise 19: ways, and turns that show that there is none."""

import unittest

from replaytravel.order import clock, is_ahead
from replaytravel.runs import Run
from replaytravel.ways import is_way, other_way, way_to
from tests.helpers import anything, program_of, run_of
from tests.slow import links_of, some_run

# A store, a send, its take, a lock, its free, the next lock, a load.
RUN = run_of("store 1, 1; send 0, 1", "take a, 0; lock 0; free 0", "lock 0; load a, 1", turns="0011122")
WAY = [(0, 0), (0, 1), (1, 0), (1, 1), (1, 2), (2, 0), (2, 1)]


class WayToTest(unittest.TestCase):
    def test_from_the_one_to_the_other(self):
        for seed in range(120):
            run = some_run(seed, most=12)
            names, numbers = run.names(), range(len(run))
            for one, other in [(one, other) for one in numbers for other in numbers]:
                told = way_to(run, one, other)
                with self.subTest(seed=seed, one=one, other=other):
                    if one != other and not is_ahead(run, one, other):
                        self.assertIsNone(told)
                        continue
                    self.assertIs(type(told), list)
                    self.assertEqual((told[0], told[-1]), (names[one], names[other]))
                    self.assertIs(is_way(run, told), True)
                    for before, behind in zip(told, told[1:]):
                        self.assertIn(names.index(before), links_of(run.steps(), names.index(behind)))

    def test_the_same_number(self):
        for number in range(7):
            self.assertEqual(way_to(RUN, number, number), [RUN.names()[number]])

    def test_none(self):
        run = run_of("set a, 1; store 1, 1", "load a, 2; load a, 1", turns="0110")
        self.assertIsNone(way_to(run, 0, 1))
        self.assertIsNone(way_to(run, 1, 0))
        self.assertIsNone(way_to(run, 0, 2))
        self.assertIsNone(way_to(run, 3, 0))
        self.assertEqual(way_to(run, 2, 3), [(1, 1), (0, 1)])

    def test_four_hundred_turns(self):
        run = run_of("load a, 0; store 0, a; go 0", "load a, 0; store 0, a; go 0", turns="01" * 200)
        told = way_to(run, 0, 399)
        self.assertEqual((told[0], told[-1], is_way(run, told)), ((0, 0), (1, 199), True))

    def test_the_list_is_the_askers(self):
        way_to(RUN, 0, 6).clear()
        self.assertEqual(way_to(RUN, 0, 6), way_to(RUN, 0, 6))
        self.assertEqual(way_to(RUN, 0, 6)[0], (0, 0))

    def test_by_name(self):
        self.assertEqual(way_to(other=1, one=0, run=RUN), [(0, 0), (0, 1)])
        self.assertIs(is_way(names=[(0, 0)], run=RUN), True)
        self.assertIsNone(other_way(other=1, one=0, run=RUN))


class IsWayTest(unittest.TestCase):
    def test_each_kind_of_link(self):
        self.assertIs(is_way(RUN, [(0, 0), (0, 1)]), True)
        self.assertIs(is_way(RUN, [(0, 0), (2, 1)]), True)
        self.assertIs(is_way(RUN, [(1, 2), (2, 0)]), True)
        self.assertIs(is_way(RUN, [(1, 1), (2, 0)]), True)
        self.assertIs(is_way(RUN, [(0, 1), (1, 0)]), True)
        self.assertIs(is_way(RUN, WAY), True)

    def test_next_ahead_of_each_word(self):
        run = run_of("store 1, 1; load a, 1; swap a, 1, 2; send 0, 1; take a, 0",
                     "load a, 1; store 1, 3; send 0, 1; take a, 0", turns="010010101")
        links = {(one, other): is_way(run, [one, other]) for one in run.names() for other in run.names()}
        due = {(before, behind) for number, behind in enumerate(run.names())
               for before in [run.names()[k] for k in links_of(run.steps(), number)]}
        self.assertEqual({link for link in links if links[link]}, due)

    def test_each_name_alone(self):
        for name in RUN.names():
            self.assertIs(is_way(RUN, [name]), True)

    def test_links_in_all(self):
        for seed in range(80):
            run = some_run(seed)
            names = run.names()
            for number, other in enumerate(names):
                links = [names[k] for k in links_of(run.steps(), number)]
                for one in names:
                    self.assertIs(is_way(run, [one, other]), one in links)

    def test_a_name_left_out_twice_exchanged(self):
        for at in range(1, 6):
            self.assertIs(is_way(RUN, WAY[:at] + WAY[at + 1:]), WAY[at] == (1, 2))
        for at in range(7):
            self.assertIs(is_way(RUN, WAY[:at + 1] + WAY[at:]), False)
        for at in range(6):
            self.assertIs(is_way(RUN, WAY[:at] + [WAY[at + 1], WAY[at]] + WAY[at + 2:]), False)
        self.assertIs(is_way(RUN, WAY[::-1]), False)

    def test_ahead_alone_is_no_link(self):
        self.assertTrue(is_ahead(RUN, 0, 2))
        self.assertIs(is_way(RUN, [(0, 0), (1, 0)]), False)
        run = run_of("lock 0; free 0", "lock 0; free 0", "lock 0", turns="00112")
        self.assertIs(is_way(run, [(0, 1), (2, 0)]), False)
        self.assertIs(is_way(run, [(0, 0), (2, 0)]), False)
        self.assertIs(is_way(run, [(0, 1), (1, 0), (2, 0)]), True)
        run = run_of("send 0, 1; send 0, 2", "take a, 0; take a, 0", turns="0011")
        self.assertIs(is_way(run, [(0, 0), (1, 1)]), False)
        self.assertIs(is_way(run, [(0, 1), (1, 0)]), False)
        self.assertIs(is_way(run, [(0, 1), (1, 1)]), True)

    def test_names_that_no_step_has(self):
        for name in ((0, 2), (1, 3), (3, 0), (-1, 0), (0, -1), (0, 10 ** 30)):
            self.assertIs(is_way(RUN, [name]), False)
            self.assertIs(is_way(RUN, [(0, 0), name]), False)
            self.assertIs(is_way(RUN, [name, (0, 0)]), False)
        self.assertIs(is_way(Run(program_of("go 0"), [[]], []), [(0, 0)]), False)

    def test_truths_in_names(self):
        for name in ((False, 0), (0, False), (True, 0), (0, True), (True, True), (1, True)):
            self.assertIs(is_way(RUN, [name]), False)
        self.assertIs(is_way(RUN, [(0, 0), (0, True)]), False)
        self.assertIs(is_way(RUN, [(0, False), (0, 1)]), False)

    def test_anything(self):
        self.assertIs(is_way(RUN, []), False)
        self.assertIs(is_way(RUN, tuple(WAY)), False)
        self.assertIs(is_way(RUN, {(0, 0): (0, 1)}), False)
        for thing in anything():
            with self.subTest(kind=type(thing).__name__):
                self.assertIs(is_way(RUN, thing), False)
                self.assertIs(is_way(RUN, [thing]), thing == (0, 0) and type(thing[0]) is int is type(thing[1]))
                self.assertIs(is_way(RUN, [(0, 0), thing]), False)
        self.assertIs(is_way(RUN, [[0, 0], [0, 1]]), False)

    def test_names_stay(self):
        names = [(0, 0), (0, 1)]
        is_way(RUN, names)
        self.assertEqual(names, [(0, 0), (0, 1)])


class OtherWayTest(unittest.TestCase):
    def shown(self, run, one, other):
        turns = other_way(run, one, other)
        if is_ahead(run, one, other):
            self.assertIsNone(turns)
            return
        self.assertIs(type(turns), list)
        again = Run(run.program(), run.inputs(), turns)
        self.assertEqual(sorted(again.names()), sorted(run.names()))
        for number, name in enumerate(again.names()):
            due = run.number(name)
            self.assertEqual((again.steps()[number], clock(again, number)), (run.steps()[due], clock(run, due)))
        names = run.names()
        self.assertTrue(again.number(names[other]) < again.number(names[one]))

    def test_each_two(self):
        for seed in range(80):
            run = some_run(seed, most=10)
            for one in range(len(run)):
                for other in range(len(run)):
                    if one != other:
                        with self.subTest(seed=seed, one=one, other=other):
                            self.shown(run, one, other)

    def test_none_just_where_it_is_ahead(self):
        for one in range(7):
            for other in range(one + 1, 7):
                self.assertIsNone(other_way(RUN, one, other))
                self.assertIsNotNone(other_way(RUN, other, one))

    def test_exchanged(self):
        run = run_of("set a, 1", "set a, 1", turns="01")
        self.assertEqual(other_way(run, 0, 1), [1, 0])
        self.assertEqual(other_way(run, 1, 0), [0, 1])

    def test_four_hundred_turns(self):
        run = run_of("load a, 0; go 0", "load a, 0; go 0", turns="01" * 200)
        self.shown(run, 0, 399)
        self.shown(run, 1, 398)
        self.assertIsNone(other_way(run, 0, 398))

    def test_the_list_is_the_askers(self):
        run = run_of("set a, 1", "set a, 1", turns="01")
        other_way(run, 0, 1).clear()
        self.assertEqual(other_way(run, 0, 1), [1, 0])
        self.assertEqual(run.turns(), [0, 1])


if __name__ == "__main__":
    unittest.main()
