"""Promise 8: programs as texts."""

import unittest

from replaytravel.programs import is_program
from replaytravel.programtexts import read_program, show_program, show_row
from tests.helpers import LETTERS, ROWS, drawn, refused_text, some_expression

TEXTS = [
    "set a, b 1 +",
    "load a, b 1 +",
    "store a, b 1 +",
    "swap a, a, b 1 +",
    "lock a",
    "free a",
    "send a, b 1 +",
    "take a, b 1 +",
    "input a",
    "tell a",
    "check a",
    "if a, 0",
    "go 0",
]


def some_program(seed):
    """A program put together from drawn numbers."""
    numbers = drawn(seed, 4)
    threads = []
    for nth in range(1 + numbers[0] % 4):
        many = drawn(seed + nth, 3)[2] % 12
        threads.append(tuple([some_row(drawn(seed * 50 + nth * 13 + at, 70), many) for at in range(many)]))
    return tuple(threads)


def some_row(numbers, many):
    row = ROWS[numbers[0] % 13]
    things = []
    for at, thing in enumerate(row[1:]):
        if isinstance(thing, str):
            things.append(LETTERS[numbers[1] % 16])
        elif isinstance(thing, tuple):
            things.append(some_expression(numbers[2 + 20 * at:22 + 20 * at]))
        else:
            things.append(numbers[69] % (many + 1))
    return (row[0], *things)


class ShowTest(unittest.TestCase):
    def test_the_row_of_the_document(self):
        self.assertEqual(show_row(("swap", "a", (5,), ("b", 1, "+"))), "swap a, 5, b 1 +")

    def test_each_word(self):
        self.assertEqual([show_row(row) for row in ROWS], TEXTS)

    def test_programs(self):
        self.assertEqual(show_program(((),)), "thread")
        self.assertEqual(show_program(((), ())), "thread\nthread")
        self.assertEqual(show_program(((("go", 1),), (("input", "a"), ("tell", ("a",))))),
                         "thread\ngo 1\nthread\ninput a\ntell a")

    def test_by_name(self):
        self.assertEqual(show_row(row=("go", 0)), "go 0")
        self.assertEqual(show_program(program=((),)), "thread")


class ReadTest(unittest.TestCase):
    def test_each_word(self):
        for row, text in zip(ROWS, TEXTS):
            with self.subTest(text=text):
                self.assertEqual(read_program("thread\n" + text), ((row,),))

    def test_programs(self):
        self.assertEqual(read_program("thread"), ((),))
        self.assertEqual(read_program("thread\nthread\nthread\nthread"), ((), (), (), ()))
        self.assertEqual(read_program("thread\ngo 1\nthread\nthread\ninput a"), ((("go", 1),), (), (("input", "a"),)))

    def test_one_way_and_back(self):
        for seed in range(150):
            program = some_program(seed)
            with self.subTest(seed=seed):
                self.assertIs(is_program(program), True)
                self.assertEqual(read_program(show_program(program)), program)

    def test_four_threads_of_forty_rows(self):
        program = ((("if", (-32768,), 40),) * 40,) * 4
        self.assertEqual(read_program(show_program(program)), program)

    def test_worths_and_numbers_are_whole_numbers(self):
        row = read_program("thread\nif 1, 1")[0][0]
        self.assertIs(type(row[2]), int)
        self.assertIs(type(row[1]), tuple)

    def test_by_name(self):
        self.assertEqual(read_program(text="thread"), ((),))


class RefusedTest(unittest.TestCase):
    def refused(self, text, nth):
        refused_text(self, read_program, text, nth)

    def test_a_row_that_is_none(self):
        for row in ("", " ", "set", "set ", "set a", "set a, ", "set a,1", "set a,  1", "set a , 1", "set  a, 1",
                    " set a, 1", "set a, 1 ", "set q, 1", "set ab, 1", "set a, 1, 2", "set 1, a", "set a, 01",
                    "set a, -0", "set a, 32768", "set a, 1 2", "set a, +", "Set a, 1", "jump 0", "falls", "store 1",
                    "store 1, 2, 3", "swap a, 1", "swap 1, 1, 1", "swap a, 1, 1, 1", "lock", "lock ", "lock 1, 2",
                    "lock q", "free 1,2", "send 1", "take a", "take 1, a", "input", "input ", "input 1", "input q",
                    "input a, b", "input a ", "tell", "tell ", "tell 1 2", "check +", "check a, b", "if 1", "if , 0",
                    "if 1, ", "if 1, a", "if 1, -1", "if 1, 00", "if 1, -0", "if 1, 0 ", "if 0", "go", "go ", "go a",
                    "go -1", "go 01", "go 0 ", "go  0", "go 0, 0", "go 0 0", "go +0", "thread ", " thread", "threads",
                    "thread 1", "Thread", "thread, a", "set a; 1", "set\ta, 1", "a", "lock 1 ,2", "go " + "9" * 5000,
                    "go " + "0" * 5000, "set a, " + "1" * 5000, "tell " + " ".join(["a"] * 9 + ["+"] * 8)):
            with self.subTest(row=row[:40]):
                self.refused("thread\ngo 0\n" + row, 2)
                self.refused("thread\ngo 0\n" + row + "\ngo 0\nthread", 2)
                self.refused("thread\nthread\n" + row + "\nwrong", 2)

    def test_a_row_ahead_of_the_first_thread(self):
        self.refused("go 0", 0)
        self.refused("input a\nthread", 0)
        self.refused("input a\nthread\ninput a", 0)
        self.refused("\nthread", 0)

    def test_a_fifth_thread(self):
        self.refused("\n".join(["thread"] * 5), 4)
        self.refused("\n".join(["thread", "input a"] * 5), 8)
        self.refused("\n".join(["thread"] * 6), 4)

    def test_a_forty_first_row(self):
        self.assertEqual(len(read_program("\n".join(["thread"] + ["input a"] * 40))[0]), 40)
        self.refused("\n".join(["thread"] + ["input a"] * 41), 41)
        self.refused("\n".join(["thread"] + ["input a"] * 45 + ["thread"]), 41)
        self.refused("\n".join(["thread", "go 0", "thread"] + ["input a"] * 41), 43)

    def test_going_beyond_its_thread(self):
        for word in ("go ", "if 1, "):
            self.refused(f"thread\n{word}2", 1)
            self.refused(f"thread\n{word}999999999", 1)
            self.refused(f"thread\n{word}1000000000", 1)
            self.refused(f"thread\n{word}1\nthread\n{word}2", 3)
            self.refused(f"thread\n{word}2\nthread\ninput a", 1)
            self.refused(f"thread\ninput a\ninput a\n{word}4", 3)
            self.assertEqual(len(read_program(f"thread\ninput a\ninput a\n{word}3")[0]), 3)

    def test_rows_count_good_or_not(self):
        self.refused("thread\ngo 2\nwrong", 2)
        self.refused("thread\ngo 3\nwrong", 1)
        self.refused("thread\ngo 2\n", 2)
        self.refused("thread\ngo 2\nthread ", 2)
        self.refused("thread\ngo 2\nthread\nwrong", 1)
        self.refused("thread\ninput a\nwrong\ngo 4", 2)
        self.refused("\n".join(["thread", "go 45"] + ["input a"] * 44), 41)
        self.refused("\n".join(["thread", "go 46"] + ["input a"] * 44), 1)
        self.refused("\n".join(["thread"] * 3 + ["thread", "go 1", "thread"]), 5)
        self.refused("\n".join(["thread"] * 3 + ["thread", "go 2", "thread", "input a"]), 4)

    def test_rows_ahead_of_the_first_thread_do_not_count(self):
        self.refused("go 0\nthread\ngo 9", 0)

    def test_no_signs_at_all(self):
        self.refused("", 0)

    def test_a_line_feed_behind_the_last_row(self):
        self.refused("thread\n", 1)
        self.refused("thread\ngo 0\n", 2)
        self.refused("\n", 0)

    def test_two_line_feeds(self):
        self.refused("thread\n\ngo 0", 1)

    def test_the_first_of_several(self):
        self.refused("thread\nwrong\nwrong", 1)
        self.refused("thread\ngo 9\nwrong", 1)
        self.refused("thread\nwrong\ngo 9", 1)
        self.refused("\n".join(["thread"] * 4 + ["wrong", "thread"]), 4)
        self.refused("\n".join(["thread"] * 5 + ["wrong"]), 4)
        self.refused("\n".join(["thread"] + ["input a"] * 39 + ["go 50"] + ["input a"]), 40)


if __name__ == "__main__":
    unittest.main()
