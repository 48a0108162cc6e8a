"""Promise 7: programs."""

import unittest

from replaytravel.programs import is_program
from tests.helpers import LETTERS, ROWS, A, B, anything

NO_LETTERS = ["q", "", "ab", "A", "+", ("a",), ["a"], {"a": 0}, None, True, 0, 5]
NO_EXPRESSIONS = [(), [1], "a", "a 1 +", 1, None, True, {"a": 1}, ("+",), (1, 2), (True,), (32768,), ("q",), ((1,),)]
NO_PLACES = [-1, 2, 40, 41, 10 ** 29, True, False, None, "0", (0,), [0], {0: 0}]


def in_one(row):
    return ((row,),)


def wrong_for(thing):
    if isinstance(thing, str):
        return NO_LETTERS
    return NO_EXPRESSIONS if isinstance(thing, tuple) else NO_PLACES


class IsProgramTest(unittest.TestCase):
    def test_of_anything(self):
        for thing in anything():
            with self.subTest(kind=type(thing).__name__):
                self.assertIs(is_program(thing), thing == ((), ()))
                self.assertIs(is_program((thing,)), thing == ())
                self.assertIs(is_program(((thing,),)), False)
                self.assertIs(is_program((((thing, "a"),),)), False)
                self.assertIs(is_program(((("set", thing, (1,)),),)), thing == "a" or thing == "p")
                self.assertIs(is_program(((("tell", thing),),)), thing == ("a",) or thing == (0,))
                whole = isinstance(thing, int) and not isinstance(thing, bool)
                self.assertIs(is_program(((("go", thing),),)), whole and thing in (0, 1))

    def test_each_word_with_the_right_things(self):
        self.assertEqual(len(ROWS), 13)
        for row in ROWS:
            with self.subTest(row=row):
                self.assertIs(is_program(in_one(row)), True)
        self.assertIs(is_program((tuple(ROWS),)), True)

    def test_each_word_with_a_wrong_thing_at_each_place(self):
        for row in ROWS:
            for at in range(1, len(row)):
                for wrong in wrong_for(row[at]):
                    with self.subTest(row=row, at=at, wrong=wrong):
                        self.assertIs(is_program(in_one(row[:at] + (wrong,) + row[at + 1:])), False)

    def test_too_few_and_too_many_things(self):
        for row in ROWS:
            with self.subTest(row=row):
                self.assertIs(is_program(in_one(row[:-1])), False)
                self.assertIs(is_program(in_one(row[:1])), False)
                for more in ("a", (1,), 0, None):
                    self.assertIs(is_program(in_one(row + (more,))), False)

    def test_words_that_are_none(self):
        for word in ("", "Set", "set ", "jump", "thread", "falls", None, True, 0, ("set",), ["set"], {"set": 0}):
            for things in (("a", B), (A,), (0,), ()):
                with self.subTest(word=word, things=things):
                    self.assertIs(is_program(in_one((word, *things))), False)

    def test_each_letter(self):
        for letter in LETTERS:
            self.assertIs(is_program(in_one(("input", letter))), True)

    def test_how_many_threads(self):
        self.assertIs(is_program(()), False)
        for many in (1, 2, 3, 4):
            self.assertIs(is_program(((),) * many), True)
            self.assertIs(is_program(((("input", "a"),),) * many), True)
        self.assertIs(is_program(((),) * 5), False)
        self.assertIs(is_program(((("input", "a"),),) * 5), False)

    def test_how_many_rows(self):
        self.assertIs(is_program(((),)), True)
        self.assertIs(is_program(((("input", "a"),) * 40,)), True)
        self.assertIs(is_program(((("input", "a"),) * 41,)), False)
        self.assertIs(is_program(((), (("input", "a"),) * 41)), False)

    def test_where_to(self):
        for row in (("if", A), ("go",)):
            for many in (1, 2, 39, 40):
                filling = (("input", "a"),) * (many - 1)
                for to in (0, 1, many - 1, many):
                    with self.subTest(row=row, many=many, to=to):
                        self.assertIs(is_program((filling + ((*row, to),),)), True)
                        self.assertIs(is_program((((*row, to),) + filling,)), True)
                for to in (-1, many + 1, True, False, None, "0"):
                    with self.subTest(row=row, many=many, to=to):
                        self.assertIs(is_program((filling + ((*row, to),),)), False)

    def test_where_to_is_of_its_own_thread(self):
        long = (("input", "a"),) * 5
        self.assertIs(is_program((long, (("go", 1),))), True)
        self.assertIs(is_program((long, (("go", 5),))), False)
        self.assertIs(is_program(((("go", 5),), long)), False)

    def test_lists_in_the_place_of_tuples(self):
        row = ("set", "a", (1,))
        self.assertIs(is_program(((row,),)), True)
        for bad in ([(row,)], ([row],), ((list(row),),), ((("set", "a", [1]),),), {0: (row,)}, ({0: row},), "", "set"):
            with self.subTest(bad=bad):
                self.assertIs(is_program(bad), False)

    def test_a_wrong_one_anywhere(self):
        good, bad = ("input", "a"), ("input", "q")
        self.assertIs(is_program(((good, good, bad), (good,))), False)
        self.assertIs(is_program(((bad, good), (good,))), False)
        self.assertIs(is_program(((good,), (good, bad))), False)
        self.assertIs(is_program(((good,), (), None)), False)

    def test_by_name(self):
        self.assertIs(is_program(thing=((),)), True)


if __name__ == "__main__":
    unittest.main()
