"""Promise 37: the texts of recordings."""

import unittest

from replaytravel.errors import NoText
from replaytravel.keptlooks import cost_of, do_keep
from replaytravel.programtexts import show_program
from replaytravel.recordings import Recording
from replaytravel.recordingtexts import read_recording, show_recording
from replaytravel.runs import Run
from replaytravel.turns import packed
from tests.helpers import anything, program_of, refused_text, run_of
from tests.slow import long_run, some_run

# Row 0 recording, 1 to 3 and 4 to 6 the threads, 7 and 8 inputs, 9 turns, 10 and 11 pairs, 12 kept.
TEXT = "\n".join([
    "recording 5",
    "thread",
    "load a, 0",
    "store 0, a 1 +",
    "thread",
    "swap b, 0, 4",
    "input c",
    "inputs",
    "inputs -7 0",
    "turns 0 1 0 1",
    "pair 0 0 1 0",
    "pair 1 0 0 1",
    "kept 0 3",
])
ROWS = TEXT.split("\n")
KEPT = len(ROWS) - 1
# Just as cheap: whichever of the two times is kept.
TIES = run_of("tell 1; tell 1; tell 1", turns="000")


def text_slowly(recording):
    run = recording.run()
    rows = [f"recording {recording.bound()}", show_program(run.program())]
    for worths in run.inputs():
        rows.append(" ".join(["inputs"] + [f"{worth}" for worth in worths]))
    rows.append("turns " + packed(run.turns()))
    for (a, m), (b, n) in recording.pairs():
        rows.append(f"pair {a} {m} {b} {n}")
    rows.append("kept " + " ".join([f"{time}" for time in recording.kept()]))
    return "\n".join(rows)


class ShownTest(unittest.TestCase):
    def there_and_back(self, recording):
        text = show_recording(recording)
        self.assertEqual(text, text_slowly(recording))
        read = read_recording(text)
        self.assertIs(type(read), Recording)
        self.assertIs(read == recording, True)
        self.assertEqual((read.bound(), read.pairs(), read.kept()), (recording.bound(), recording.pairs(), recording.kept()))
        self.assertTrue(read.run() == recording.run())
        self.assertEqual(show_recording(read), text)
        return text

    def test_told(self):
        run = run_of("load a, 0; store 0, a 1 +", "swap b, 0, 4; input c", turns="0101", inputs=[[], [-7, 0]])
        self.assertEqual(self.there_and_back(Recording(run, bound=5)), TEXT)
        self.assertEqual(self.there_and_back(read_recording(TEXT)), TEXT)

    def test_drawn_runs(self):
        for seed in range(80):
            run = some_run(seed, most=15)
            for bound in (0, 3, 60, 999999999):
                self.there_and_back(Recording(run, bound=bound))

    def test_one_to_four_threads_without_rows(self):
        for many in range(1, 5):
            run = run_of(*[""] * many, turns="")
            text = self.there_and_back(Recording(run))
            self.assertEqual(text, "\n".join(["recording 60"] + ["thread"] * many + ["inputs"] * many + ["turns -", "kept 0"]))

    def test_four_threads_and_forty_rows(self):
        threads = ["; ".join(["store 0, a", "load b, 0"] * 20)] * 4
        self.there_and_back(Recording(run_of(*threads, turns="0123" * 40), bound=30))

    def test_sixty_inputs(self):
        worths = [-32768, 32767, 0, -1] * 15
        self.there_and_back(Recording(run_of("input a; tell a; go 0", "", turns="0" * 40, inputs=[worths, worths[::-1]])))

    def test_hundreds_of_turns_and_many_pairs(self):
        for seed in range(3):
            recording = Recording(long_run(seed), bound=40)
            self.assertTrue(len(recording.pairs()) > 40)
            self.there_and_back(recording)
        run = run_of("go 0", "go 0", turns=[0, 0, 1, 1] * 100)
        self.there_and_back(Recording(run))

    def test_by_name(self):
        self.assertEqual(show_recording(recording=read_recording(text=TEXT)), TEXT)

    def test_other_cheapest_kept_times_are_read_as_they_stand(self):
        own = Recording(TIES, bound=2)
        head = show_recording(own).rpartition("\n")[0]
        read = []
        for time in range(4):
            times = (0, time) if time else (0,)
            row = "kept " + " ".join(map(str, times))
            if do_keep(TIES, 2, times) and cost_of(TIES, times) == cost_of(TIES, own.kept()):
                recording = read_recording(head + "\n" + row)
                self.assertEqual((recording.kept(), recording.bound()), (times, 2))
                self.assertEqual(show_recording(recording), head + "\n" + row)
                self.assertIs(recording == own, times == own.kept())
                self.assertIs(recording == read_recording(show_recording(recording)), True)
                read.append(times)
        self.assertEqual(read, [(0, 1), (0, 2), (0, 3)])


class RefusedTest(unittest.TestCase):
    def refused(self, rows, nth):
        refused_text(self, read_recording, "\n".join(rows), nth)

    def with_row(self, at, row):
        return ROWS[:at] + [row] + ROWS[at + 1:]

    def test_the_text_itself_is_read(self):
        self.assertEqual(show_recording(read_recording(TEXT)), TEXT)

    def test_what_is_no_text(self):
        for thing in anything():
            if not isinstance(thing, str):
                with self.subTest(kind=type(thing).__name__):
                    refused_text_of_anything(self, thing)

    def test_texts_that_are_nothing_like_it(self):
        for text in ("", "\n", "recording", "recordings 5", " recording 5", "thread", "a\nb", "kept 0"):
            refused_text(self, read_recording, text, 0)

    def test_each_row_spoilt(self):
        for at, row in enumerate(ROWS):
            for spoilt in (row + " ", " " + row, row + " x", row.replace(" ", "  ", 1) if " " in row else row + "  ", "",
                           row.upper(), "x" + row, row + ","):
                with self.subTest(at=at, spoilt=spoilt):
                    self.refused(self.with_row(at, spoilt), at)

    def test_a_row_more_that_is_none(self):
        for at in range(len(ROWS) + 1):
            for row in ("", "x", "recordings 5"):
                self.refused(ROWS[:at] + [row] + ROWS[at:], at)

    def test_a_row_missing_at_the_end(self):
        for many in range(1, len(ROWS)):
            self.refused(ROWS[:many], many)

    def test_a_row_left_out(self):
        # What stands there then is none in its place, or the pairs aren't the run's.
        due = {0: 0, 1: 1, 2: 8, 3: 8, 4: 7, 5: 8, 6: 8, 7: 8, 8: 8, 9: 9, 10: 10, 11: 11, 12: 12}
        for at, nth in due.items():
            with self.subTest(at=at):
                self.refused(ROWS[:at] + ROWS[at + 1:], nth)

    def test_a_row_twice(self):
        # A thread twice is one without rows: the inputs are too few. A row twice is another program's, of other pairs.
        for at, nth in ((0, 1), (1, 10), (4, 10), (5, 12), (7, 9), (8, 9), (9, 10), (10, 11), (11, 12), (12, 13)):
            with self.subTest(at=at):
                self.refused(ROWS[:at + 1] + ROWS[at:], nth)

    def test_rows_turned_about(self):
        for at, nth in ((0, 0), (6, 7), (8, 8), (9, 9), (10, 10), (11, 12)):
            with self.subTest(at=at):
                self.refused(ROWS[:at] + [ROWS[at + 1], ROWS[at]] + ROWS[at + 2:], nth)

    def test_the_bound(self):
        for word in ("", "-1", "05", "1000000000", "0000000001", "x", "5 5", "+5", "5.0", "1_0"):
            self.refused(self.with_row(0, "recording " + word), 0)
        self.refused(self.with_row(0, "recording"), 0)
        big = read_recording("\n".join(self.with_row(0, "recording 999999999")[:-1] + ["kept 0"]))
        self.assertEqual((big.bound(), big.kept()), (999999999, (0,)))
        none = read_recording("\n".join(self.with_row(0, "recording 0")[:-1] + ["kept 0 1 2 3 4"]))
        self.assertEqual((none.bound(), none.kept()), (0, (0, 1, 2, 3, 4)))

    def test_the_program(self):
        for at, row in ((2, "load a"), (2, "load q, 0"), (3, "store 0, a +"), (5, "swap b, 0, 99999"), (6, "input"),
                        (3, "go 3"), (6, "if 1, 3"), (3, "threads"), (1, "thread 0")):
            self.refused(self.with_row(at, row), at)
        # Rows of a thread end where the inputs begin.
        self.refused(ROWS[:7] + ["go 4"] + ROWS[7:], 7)
        read_like = ROWS[:7] + ["go 3"] + ROWS[7:]
        self.assertEqual(show_recording(read_recording("\n".join(read_like))), "\n".join(read_like))
        self.refused(ROWS[:1] + ["thread"] * 5 + ROWS[7:], 5)
        self.refused(ROWS[:2] + ["tell 1"] * 41 + ROWS[4:], 42)
        self.refused(["recording 5", "inputs", "turns -", "kept 0"], 1)
        self.refused(["recording 5"], 1)

    def test_without_rows_of_inputs(self):
        # The program's rows go on up to the end then.
        self.refused(["recording 5", "thread", "turns -", "kept 0"], 2)
        self.refused(["recording 5", "thread", "tell 1"], 3)
        self.refused(["recording 5", "thread", "go 2", "tell 1"], 4)
        self.refused(["recording 5", "thread", "go 3", "tell 1"], 2)

    def test_too_few_and_too_many_rows_of_inputs(self):
        self.refused(ROWS[:8] + ROWS[9:], 8)
        self.refused(ROWS[:7] + ROWS[9:], 7)
        self.refused(ROWS[:8] + ["inputs"] + ROWS[8:], 9)
        self.refused(ROWS[:9] + ["inputs"] + ROWS[9:], 9)

    def test_inputs(self):
        for words in (" 32768", " -32769", " 01", " -0", " +1", " 1  2", " 1 ", "  1", " a", " 1,2", " 1000000000", " --1"):
            for at in (7, 8):
                self.refused(self.with_row(at, "inputs" + words), at)
        sixty = read_recording("\n".join(self.with_row(8, "inputs" + " -7" * 60)))
        self.assertEqual(sixty.run().inputs(), [[], [-7] * 60])
        self.refused(self.with_row(8, "inputs" + " -7" * 61), 8)

    def test_turns_that_are_none(self):
        for words in ("", " ", " 4", " 0*1", " 0 0", " 0*2 0", " 0*0", " 0*401", " 0*200 1*201", " -1", " 00", " 0  1",
                      " - 0", " 0 -", " --", " 0*1000000000", " a"):
            self.refused(self.with_row(9, "turns" + words), 9)

    def test_turns_that_cannot_be_done(self):
        for words in ("0*3", "2", "0 1 0 1 0", "0 1 3", "1*3", "0*400"):
            self.refused(self.with_row(9, "turns " + words), 9)
        # Only where each row is one in its place.
        spoilt = self.with_row(9, "turns 0*3")
        self.refused(spoilt[:10] + ["pair 0 0 1"] + spoilt[11:], 10)
        self.refused(spoilt[:-1] + ["kept"], KEPT)
        self.refused(spoilt + [""], KEPT + 1)
        # Ahead of pairs and kept times that aren't the run's.
        self.refused(spoilt[:10] + ["pair 3 3 3 3", "kept 9"], 9)
        # A thread that waits can't be gone on with.
        self.refused(["recording 60", "thread", "take a, 0", "inputs", "turns 0", "kept 0"], 4)

    def test_pairs_that_are_no_rows(self):
        for words in ("", " 0", " 0 0 1", " 0 0 1 0 0", " 00 0 1 0", " 0 0 1 -1", " 0 0 1 0 ", " 0  0 1 0", " 0 0 1 1000000000",
                      " a 0 1 0"):
            for at in (10, 11):
                self.refused(self.with_row(at, "pair" + words), at)
        self.refused(ROWS[:11] + ["pair 0 0 1"] + ROWS[11:], 11)

    def test_pairs_that_are_not_the_runs(self):
        for row in ("pair 0 0 1 1", "pair 1 0 0 0", "pair 9 9 9 9", "pair 999999999 0 0 0"):
            for at in (10, 11):
                self.refused(self.with_row(at, row), at)
        # One too many, wherever: the row at which they differ.
        self.refused(ROWS[:12] + ["pair 1 1 1 1"] + ROWS[12:], 12)
        self.refused(ROWS[:12] + ["pair 1 0 0 1"] + ROWS[12:], 12)
        self.refused(ROWS[:10] + ["pair 0 0 0 1"] + ROWS[10:], 10)
        self.refused(ROWS[:11] + ["pair 0 0 1 0"] + ROWS[11:], 11)
        # One missing at the end: the row kept. One missing ahead: the row in its place.
        self.refused(ROWS[:11] + ROWS[12:], 11)
        self.refused(ROWS[:10] + ROWS[12:], 10)
        self.refused(ROWS[:10] + ROWS[11:], 10)
        # Ahead of kept times that don't do.
        self.refused(self.with_row(10, "pair 0 0 1 1")[:-1] + ["kept 5 5"], 10)
        self.refused(ROWS[:11] + ["kept 7"], 11)

    def test_kept_times_that_are_no_row(self):
        for words in ("", " ", " -1", " 0 02", " 0  2", " 0 2 ", " 0 1000000000", " x", " 0,2"):
            self.refused(self.with_row(KEPT, "kept" + words), KEPT)

    def test_kept_times_that_do_not_do_or_are_not_cheapest(self):
        run = read_recording(TEXT).run()
        self.assertIs(do_keep(run, 5, (0, 1, 3)), True)
        self.assertTrue(cost_of(run, (0, 1, 3)) > cost_of(run, (0, 3)))
        for times in ((0,), (0, 1), (0, 2), (0, 1, 3), (0, 1, 2, 3, 4), (3,), (1, 3), (0, 0, 3), (0, 3, 3), (3, 0), (0, 4, 3),
                      (0, 3, 4), (0, 5), (0, 3, 5), (0, 999999999)):
            self.refused(self.with_row(KEPT, "kept " + " ".join(map(str, times))), KEPT)

    def test_behind_the_row_kept(self):
        for row in ("", "kept 0 2", "pair 0 0 1 0", "thread"):
            self.refused(ROWS + [row], KEPT + 1)

    def test_each_place_of_drawn_texts_spoilt(self):
        for seed in range(12):
            run = some_run(seed, most=10)
            rows = show_recording(Recording(run, bound=4)).split("\n")
            for at in range(len(rows)):
                self.refused(rows[:at] + [rows[at] + " ~"] + rows[at + 1:], at)
                self.refused(rows[:at] + ["~"] + rows[at:], at)


def refused_text_of_anything(case, thing):
    """Asserts that what is no text is refused at its beginning."""
    with case.assertRaises(NoText) as caught:
        read_recording(thing)
    case.assertIs(type(caught.exception), NoText)
    case.assertEqual(caught.exception.nth, 0)


class OwnTest(unittest.TestCase):
    def test_nothing_is_changed(self):
        recording = read_recording(TEXT)
        show_recording(recording)
        self.assertTrue(recording == read_recording(TEXT))
        self.assertTrue(recording.run() == Run(program_of("load a, 0; store 0, a 1 +", "swap b, 0, 4; input c"),
                                               [[], [-7, 0]], [0, 1, 0, 1]))


if __name__ == "__main__":
    unittest.main()
