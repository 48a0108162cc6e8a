"""Promise 48: the desk, its rows, what it refuses, and its log."""

import unittest

from replaytravel.asking import last_write
from replaytravel.desk import Desk
from replaytravel.errors import NoPlace, NoRow, NoText, NoThread, NoTime, NotReady, NotYet
from replaytravel.programtexts import show_program
from replaytravel.races import races, weighty
from replaytravel.recordings import Recording
from replaytravel.recordingtexts import read_recording, show_recording
from replaytravel.runs import Run
from replaytravel.turns import drawn_turns, packed
from replaytravel.why import why
from tests.helpers import LETTERS, anything, drawn, program_of
from tests.slow import LONG, flow_run, long_run, some_run

PROGRAM = program_of("input a; load b, 0; store 0, b a +; tell b; lock 0; lock 0", "load b, 0; store 0, b 1 +; take c, 3")
TEXT = show_program(PROGRAM)
TURNS = "0*2 1 0*3 1"
# Each row that there is, rightly said of PROGRAM at TURNS.
RIGHT = ["program\n" + TEXT, "inputs 0 5", "bound 7", "run " + TURNS, "draw 1 2 3", "text", "turns", "pairs", "races", "weighty",
         "kept", "go 3", "on", "back", "next 0 2", "last 0 1", "cell 0", "register 1 b", "threads", "wrote 0", "why 0",
         "waits"]
NEED_PROGRAM = ("inputs", "run", "draw")
NEED_RECORDING = ("text", "turns", "pairs", "races", "weighty", "kept", "go", "on", "back", "next", "last", "cell",
                  "register", "threads", "wrote", "why", "waits")


def first_word(row):
    return row.split("\n")[0].split(" ")[0]


def ready_desk():
    """A desk with a program, an input and a recording, its traveller at 3."""
    desk = Desk()
    for row in ("program\n" + TEXT, "inputs 0 5", "run " + TURNS, "go 3"):
        desk.say(row)
    return desk


def picture(desk):
    """All that can be asked of a desk without changing it; the log aside."""
    told = []
    for row in ("text", "turns", "pairs", "kept", "threads", "wrote 0", "why 0", "waits", "cell 0", "register 0 a"):
        try:
            told.append(desk.say(row))
        except NotYet as refusal:
            told.append(("not yet", refusal.what))
    return told


def shown_pairs(told):
    return "; ".join([f"{a} {m} {b} {n}" for (a, m), (b, n) in told]) or "-"


def shown(things):
    return " ".join([str(thing) for thing in things]) or "-"


class AnswersTest(unittest.TestCase):
    def asked(self, desk, run, times, bound):
        """All rows that ask, beside the functions."""
        recording = Recording(run, bound=bound)
        self.assertEqual(desk.say("text"), show_recording(recording))
        self.assertEqual(desk.say("turns"), packed(run.turns()))
        self.assertEqual(desk.say("pairs"), shown_pairs(recording.pairs()))
        self.assertEqual(desk.say("races"), shown_pairs(races(run)))
        self.assertEqual(desk.say("weighty"), shown_pairs(weighty(run)))
        self.assertEqual(desk.say("kept"), shown(recording.kept()))
        for time in times:
            self.assertEqual(desk.say(f"go {time}"), str(time))
            self.asked_there(desk, run, time, run.machine(time), recording)

    def asked_there(self, desk, run, time, machine, recording):
        threads = range(len(run.program()))
        for cell in (0, 1, 2, 63):
            self.assertEqual(desk.say(f"cell {cell}"), str(machine.cell(cell)))
            number = last_write(recording, time, cell)
            step = () if number is None else (number, *run.steps()[number][:2])
            self.assertEqual(desk.say(f"wrote {cell}"), shown(step))
            self.assertEqual(desk.say(f"why {cell}"), shown(sorted({row[0] for row in why(run, time, cell)})))
        for thread in threads:
            for letter in "abcp":
                self.assertEqual(desk.say(f"register {thread} {letter}"), str(machine.worth(thread, letter)))
        self.assertEqual(desk.say("threads"), shown([machine.word(thread) for thread in threads]))
        waits = [f"{t} line {n}" if kind == "line" else f"{t} lock {n} {holder}" for t, kind, n, holder in machine.waits()]
        self.assertEqual(desk.say("waits"), "; ".join(waits) or "-")

    def test_drawn_runs(self):
        for seed in range(24):
            run = flow_run(seed) if seed % 3 == 0 else some_run(seed, most=14)
            desk, bound = Desk(), (60, 3, 0, 11)[seed % 4]
            self.assertEqual(desk.say("program\n" + show_program(run.program())), "ok")
            self.assertEqual(desk.say(f"bound {bound}"), "ok")
            for thread, worths in enumerate(run.inputs()):
                self.assertEqual(desk.say(" ".join(["inputs", str(thread)] + [str(worth) for worth in worths])), "ok")
            self.assertEqual(desk.say("run " + packed(run.turns())), "ok")
            with self.subTest(seed=seed):
                self.asked(desk, run, range(len(run) + 1), bound)

    def test_a_long_run(self):
        run, desk = long_run(2), Desk()
        self.assertEqual(desk.say("read\n" + show_recording(Recording(run, bound=33))), "ok")
        self.asked(desk, run, (0, 300, 150, 149, 10), 33)

    def test_told(self):
        desk, pairs_due = Desk(), "0 2 1 1; 1 0 0 2"
        said = [("program\n" + TEXT, "ok"), ("inputs 0 5", "ok"), ("bound 9", "ok"), ("run " + TURNS, "ok"), ("turns", TURNS),
                ("pairs", pairs_due), ("races", pairs_due), ("weighty", pairs_due), ("cell 0", "0"), ("wrote 0", "-"),
                ("why 0", "-"), ("waits", "-"), ("threads", "ready ready"), ("go 6", "6"), ("cell 0", "5"), ("wrote 0", "3 0 2"),
                ("why 0", "0 1 3"), ("register 0 a", "5"), ("waits", "0 lock 0 0"), ("threads", "waits ready"), ("on", "7"),
                ("cell 0", "1"), ("wrote 0", "6 1 1"), ("why 0", "2 6"), ("waits", "0 lock 0 0; 1 line 3"),
                ("threads", "waits waits"), ("back", "6"), ("last 0 1", "1"), ("next 1 0", "2"), ("kept", "0 3")]
        for row, due in said:
            with self.subTest(row=row):
                self.assertEqual(desk.say(row), due)

    def test_nothing_at_all(self):
        desk = Desk()
        desk.say("program\nthread")
        self.assertEqual(desk.say("run -"), "ok")
        for row in ("turns", "pairs", "races", "weighty", "waits", "wrote 0", "why 63"):
            self.assertEqual(desk.say(row), "-")
        self.assertEqual([desk.say("kept"), desk.say("threads"), desk.say("cell 5"), desk.say("register 0 p")], ["0", "ended", "0", "0"])
        self.assertEqual(desk.say("text"), "recording 60\nthread\ninputs\nturns -\nkept 0")

    def test_waits(self):
        desk = Desk()
        desk.say("program\n" + show_program(program_of("lock 3; lock 3", "lock 3", "take a, 7", "tell 1")))
        desk.say("run 0")
        self.assertEqual(desk.say("waits"), "2 line 7")
        desk.say("on")
        self.assertEqual(desk.say("waits"), "0 lock 3 0; 1 lock 3 0; 2 line 7")
        self.assertEqual(desk.say("threads"), "waits waits waits ready")

    def test_draw(self):
        for numbers in ([], [0], [1], [5, 3, 8], drawn(4, 60), [999999999] * 3):
            desk = Desk()
            desk.say("program\n" + TEXT)
            desk.say("inputs 0 5")
            self.assertEqual(desk.say(" ".join(["draw"] + [str(number) for number in numbers])), "ok")
            self.assertEqual(desk.say("turns"), packed(drawn_turns(PROGRAM, [[5], []], numbers)))
        desk = Desk()
        desk.say("program\nthread\ngo 0")
        desk.say("draw")
        self.assertEqual(desk.say("turns"), "0*400")

    def test_travelling(self):
        desk = ready_desk()
        self.assertEqual([desk.say(row) for row in ("on", "on", "back", "go 0", "go 7", "back")], ["4", "5", "4", "0", "7", "6"])
        self.assertEqual([desk.say(row) for row in ("go 0", "next 1 0", "next 0 2", "last 1 0", "last 0 0")], ["0", "2", "3", "2", "0"])

    def test_a_run_begins_at_0(self):
        for row in ("run " + TURNS, "draw 1", "read\n" + ready_desk().say("text")):
            desk = ready_desk()
            self.assertEqual(desk.say(row), "ok")
            self.assertEqual(desk.say("on"), "1")


class KeptTest(unittest.TestCase):
    def refuses(self, desk, row, what):
        with self.assertRaises(NotYet) as caught:
            desk.say(row)
        self.assertEqual((type(caught.exception), caught.exception.what), (NotYet, what))

    def test_inputs_take_the_recording_away(self):
        for row in ("inputs 0 5", "inputs 0", "inputs 1 3"):
            desk = ready_desk()
            self.assertEqual(desk.say(row), "ok")
            for other in RIGHT:
                if first_word(other) in NEED_RECORDING:
                    self.refuses(desk, other, "recording")

    def test_a_program_takes_inputs_and_recording_away(self):
        desk = ready_desk()
        self.assertEqual(desk.say("program\n" + TEXT), "ok")
        self.refuses(desk, "text", "recording")
        self.assertEqual(desk.say("run 0"), "ok")
        self.assertEqual(desk.say("text").split("\n")[-4:], ["inputs", "inputs", "turns 0", "kept 0"])
        desk.say("on")
        self.assertEqual(desk.say("threads"), "fallen ready")

    def test_inputs_of_each_thread(self):
        desk = Desk()
        desk.say("program\n" + TEXT)
        worths = " ".join([str(worth) for worth in [-32768, 32767, 0, -1] * 15])
        for row in ("inputs 1 " + worths, "inputs 0 8", "inputs 0 9 9", "inputs 1", "inputs 1 4"):
            self.assertEqual(desk.say(row), "ok")
        desk.say("run -")
        self.assertEqual(desk.say("text").split("\n")[-4:-2], ["inputs 9 9", "inputs 4"])
        desk.say("inputs 0 " + worths)
        desk.say("run -")
        self.assertEqual(desk.say("text").split("\n")[-4:-2], ["inputs " + worths, "inputs 4"])

    def test_the_bound_counts_from_the_next_run_on(self):
        desk = ready_desk()
        self.assertEqual(desk.say("bound 4"), "ok")
        self.assertEqual(desk.say("text").split("\n")[0], "recording 60")
        self.assertEqual(desk.say("cell 0"), "0")
        desk.say("run " + TURNS)
        self.assertEqual(desk.say("text").split("\n")[0], "recording 4")
        self.assertEqual(desk.say("kept"), shown(Recording(Run(PROGRAM, [[5], []], [0, 0, 1, 0, 0, 0, 1]), bound=4).kept()))
        desk.say("bound 999999999")
        desk.say("draw")
        self.assertEqual(desk.say("text").split("\n")[0], "recording 999999999")
        desk.say("bound 0")
        desk.say("program\n" + TEXT)
        desk.say("draw")
        self.assertEqual(desk.say("text").split("\n")[0], "recording 0")

    def test_the_bound_ahead_of_all(self):
        desk = Desk()
        self.assertEqual(desk.say("bound 5"), "ok")
        desk.say("program\n" + TEXT)
        desk.say("run -")
        self.assertEqual(desk.say("text").split("\n")[0], "recording 5")

    def test_read_leaves_the_bound_of_later_ones(self):
        text = show_recording(Recording(long_run(1, most=40), bound=9))
        for bound in (None, 21):
            desk = Desk()
            if bound is not None:
                desk.say(f"bound {bound}")
            self.assertEqual(desk.say("read\n" + text), "ok")
            self.assertEqual(desk.say("text"), text)
            desk.say("draw 1 2")
            self.assertEqual(desk.say("text").split("\n")[0], f"recording {bound or 60}")

    def test_read_brings_program_and_inputs(self):
        recording = Recording(long_run(1, most=40), bound=9)
        for desk in (Desk(), ready_desk()):
            desk.say("read\n" + show_recording(recording))
            desk.say("run " + packed(recording.run().turns()))
            self.assertEqual(read_recording(desk.say("text")).run(), recording.run())
            self.assertEqual(desk.say("inputs 2 5"), "ok")
            desk.say("run -")
            self.assertEqual(desk.say("text").split("\n")[-5:-2], ["inputs 5", "inputs", "inputs 5"])
            self.assertEqual(len(desk.say("text").split("\n")), 4 + len("; ".join(LONG).split(";")) + 5)

    def test_read_keeps_the_kept_times_told(self):
        text = "recording 2\nthread\ntell 1\ntell 1\ntell 1\ninputs\nturns 0*3\nkept 0 "
        for time in "123":
            desk = Desk()
            desk.say("read\n" + text + time)
            self.assertEqual((desk.say("kept"), desk.say("text")), ("0 " + time, text + time))

    def test_two_desks_beside_each_other(self):
        one, other = ready_desk(), Desk()
        other.say("program\nthread\nstore 0, 9")
        other.say("bound 3")
        other.say("run 0")
        other.say("on")
        one.say("on")
        self.assertEqual([one.say("cell 0"), other.say("cell 0")], ["5", "9"])
        self.assertEqual([one.say("back"), other.say("back")], ["3", "0"])
        self.assertEqual(len(one.log()), 2 * 7)
        self.assertEqual(len(other.log()), 2 * 6)


class NoRowTest(unittest.TestCase):
    def none(self, desk, row):
        before = desk.log()
        with self.subTest(row=row if isinstance(row, str) else type(row).__name__):
            with self.assertRaises(NoRow) as caught:
                desk.say(row)
            self.assertIs(type(caught.exception), NoRow)
            self.assertIs(caught.exception.said, row)
            known = isinstance(row, str) and first_word(row) in [first_word(right) for right in RIGHT] + ["read"]
            added = [(first_word(row), "in"), (first_word(row), "out")] if known else []
            self.assertEqual(desk.log(), before + added)

    def both(self, row):
        """Of a desk that has nothing and of one that has all."""
        self.none(Desk(), row)
        self.none(self.full, row)

    def setUp(self):
        self.full = ready_desk()
        self.before = picture(self.full)

    def tearDown(self):
        self.assertEqual(picture(self.full), self.before)

    def test_what_is_no_text(self):
        for thing in anything():
            if not isinstance(thing, str):
                self.both(thing)
        for thing in (["go 1"], ("go", 1), {"go": 1}, b"on", 1.5):
            self.both(thing)

    def test_what_is_none_of_the_rows(self):
        for row in ("", " ", "\n", "on on", "On", "ON", "step", "stop", "programs", "help", "recording 5", "thread", "ok", "-",
                    "pair 0 0 1 0", "state", "in", "out", "log"):
            self.both(row)

    def test_blanks(self):
        for row in RIGHT:
            if "\n" in row:
                continue
            self.both(row + " ")
            self.both(" " + row)
            self.both(row + "  ")
            if " " in row:
                self.both(row.replace(" ", "  ", 1))
                self.both(row.replace(" ", "  "))
                self.both(row[::-1].replace(" ", "  ", 1)[::-1])
                self.both(row.replace(" ", "\t"))

    def test_line_feeds_elsewhere(self):
        for row in RIGHT:
            if "\n" in row:
                continue
            self.both(row + "\n")
            self.both(row + "\n" + TEXT)
            self.both("\n" + row)
            self.both(row.replace(" ", "\n", 1) if " " in row else row + "\n\n")
            self.both(row.replace(" ", " \n", 1) if " " in row else row + " \n")
            self.both(row.replace(" ", "\n ", 1) if " " in row else row + "\n ")
        self.both("run 0\n1")
        self.both("inputs 0 1\n2")

    def test_program_and_read(self):
        text = self.full.say("text")
        for word, behind in (("program", TEXT), ("read", text)):
            for row in (word, word + " ", word + " \n" + behind, " " + word + "\n" + behind, word + " " + behind,
                        word + " x\n" + behind, "\n" + word + "\n" + behind, word + "  \n" + behind):
                self.both(row)

    def test_words_too_few_and_too_many(self):
        for row in RIGHT:
            word = first_word(row)
            if word in ("program", "read", "run", "draw", "inputs"):
                continue
            self.both(row + " 0")
            if " " in row:
                self.both(row.rpartition(" ")[0])
                self.both(word)
        for row in ("inputs", "run", "bound", "go", "next", "next 0", "last 0", "cell", "register", "register 0", "wrote", "why",
                    "next 0 0 0", "register 0 a a", "go 1 2"):
            self.both(row)

    def test_numbers(self):
        rows = ("bound {}", "draw {}", "draw 1 {}", "go {}", "next {} 0", "next 0 {}", "last {} 0", "last 0 {}", "cell {}",
                "register {} a", "wrote {}", "why {}", "inputs {}", "inputs {} 5")
        for row in rows:
            for word in ("00", "01", "-1", "-0", "+1", "1000000000", "0000000001", "1.0", "1e3", "x", "a", "0x1", "1_0", "1,", "*"):
                self.both(row.format(word))

    def test_worths(self):
        for word in ("32768", "-32769", "01", "-01", "-0", "+1", "1000000000", "--1", "a", "-", "1.0"):
            self.both("inputs 0 " + word)
            self.both("inputs 0 5 " + word)
            self.both("inputs 1 " + word + " 5")

    def test_registers(self):
        for word in ("q", "A", "ab", "0", "-", "aa", "z", "_"):
            self.both("register 0 " + word)

    def test_sixty_one_inputs(self):
        self.both("inputs 0" + " 1" * 61)
        self.both("inputs 1" + " 1" * 200)
        self.both("inputs 9" + " 1" * 61)

    def test_run_alone(self):
        for row in ("run", "run ", "run  ", "run 0 ", "run  0", "run 0  1", "run - "):
            self.both(row)


class RefusedTest(unittest.TestCase):
    def refused(self, desk, row, refusal, **fields):
        before = picture(desk)
        log = desk.log()
        with self.subTest(row=row):
            with self.assertRaises(refusal) as caught:
                desk.say(row)
            self.assertIs(type(caught.exception), refusal)
            self.assertEqual({key: getattr(caught.exception, key) for key in fields}, fields)
            self.assertEqual(desk.log(), log + [(first_word(row), "in"), (first_word(row), "out")])
            self.assertEqual(picture(desk), before)

    def test_not_yet(self):
        for row in RIGHT:
            word = first_word(row)
            if word in NEED_PROGRAM:
                self.refused(Desk(), row, NotYet, what="program")
            if word in NEED_RECORDING:
                self.refused(Desk(), row, NotYet, what="recording")
                desk = Desk()
                desk.say("program\n" + TEXT)
                self.refused(desk, row, NotYet, what="recording")
        self.assertEqual(len(NEED_PROGRAM) + len(NEED_RECORDING) + 2, len(RIGHT))

    def test_not_yet_goes_ahead_of_what_the_functions_refuse(self):
        for row in ("run x", "run 9", "run 3*400", "inputs 9", "inputs 9 5", "draw 5"):
            self.refused(Desk(), row, NotYet, what="program")
        desk = Desk()
        desk.say("program\n" + TEXT)
        for row in ("go 999999999", "cell 64", "register 9 a", "wrote 99", "why 99", "next 9 9", "last 9 9", "back"):
            self.refused(Desk(), row, NotYet, what="recording")
            self.refused(desk, row, NotYet, what="recording")

    def test_a_bound_is_refused_of_none(self):
        self.assertEqual(Desk().say("bound 3"), "ok")

    def test_texts(self):
        for desk in (Desk(), ready_desk()):
            for text, nth in (("", 0), ("thread\njump 3", 1), ("\nthread", 0), ("thread\n", 1), (TEXT + "\n", 11), (TEXT + "\nx", 11),
                              ("thread\ngo 2", 1), (TEXT + " ", 10), ("thread 0", 0), ("program\nthread", 0)):
                self.refused(desk, "program\n" + text, NoText, nth=nth)
            good = ready_desk().say("text")
            many = len(good.split("\n"))
            for text, nth in (("", 0), ("thread", 0), (good + "\n", many), (good + " ", many - 1), ("\n" + good, 0),
                              (good.rpartition("\n")[0], many - 1), (good.replace("turns 0*2", "turns 0*3"), many - 4)):
                self.refused(desk, "read\n" + text, NoText, nth=nth)

    def test_packed_turns(self):
        desk = ready_desk()
        for words in ("x", "0 0", "0*1", "4", "0*401", "00", "0,1", "- -", "0 -", "--", "0*2 1 x", "0*", "*", "read", "0*2*3"):
            self.refused(desk, "run " + words, NoText, nth=0)

    def test_turns_that_cannot_be_done(self):
        desk = ready_desk()
        self.refused(desk, "run 1*3", NotReady, nth=2, who=1, what="waits")
        self.refused(desk, "run 0*6", NotReady, nth=5, who=0, what="waits")
        self.refused(desk, "run 2", NoThread, asked=2)
        self.refused(desk, "run 0 3", NoThread, asked=3)

    def test_inputs_of_a_thread_that_is_not_there(self):
        desk = ready_desk()
        for thread in (2, 3, 4, 999999999):
            self.refused(desk, f"inputs {thread}", NoThread, asked=thread)
            self.refused(desk, f"inputs {thread} 5 6", NoThread, asked=thread)

    def test_times(self):
        desk = ready_desk()
        for time in (8, 9, 400, 999999999):
            self.refused(desk, f"go {time}", NoTime, asked=time)
        for row in ("next 1 0", "next 0 0", "next 7 7", "last 1 2", "last 0 3", "last 9 0"):
            self.refused(desk, row, NoTime, asked=None)
        desk.say("go 0")
        self.refused(desk, "back", NoTime, asked=-1)
        desk.say("go 7")
        self.refused(desk, "on", NoTime, asked=8)

    def test_places(self):
        desk = ready_desk()
        for word in ("cell", "wrote", "why"):
            for cell in (64, 65, 999999999):
                self.refused(desk, f"{word} {cell}", NoPlace, asked=cell)
        for thread in (2, 4, 999999999):
            self.refused(desk, f"register {thread} a", NoThread, asked=thread)


class LogTest(unittest.TestCase):
    def test_both_ends_of_each_row(self):
        desk, due = Desk(), []
        self.assertEqual(desk.log(), [])
        for row in RIGHT:
            desk.say(row)
            due += [(first_word(row), "in"), (first_word(row), "out")]
            self.assertEqual(desk.log(), due)
        desk.say("read\n" + desk.say("text"))
        self.assertEqual(desk.log(), due + [("text", "in"), ("text", "out"), ("read", "in"), ("read", "out")])

    def test_nothing_else_is_in_it(self):
        desk = Desk()
        for thing in [*anything(), "", "on1", "Go 1", " on", "\non", "say on", "log"]:
            with self.assertRaises((NoRow, NotYet)):
                desk.say(thing)
        self.assertEqual(desk.log(), [("go", "in"), ("go", "out")])

    def test_the_first_word_up_to_a_blank_or_a_line_feed(self):
        for row in ("on\n", "on x", "on ", "on\nx y", "on \n"):
            desk = Desk()
            with self.assertRaises(NoRow):
                desk.say(row)
            self.assertEqual(desk.log(), [("on", "in"), ("on", "out")])

    def test_it_is_the_askers(self):
        desk = Desk()
        desk.say("bound 3")
        desk.log().clear()
        desk.log().append(("x", "in"))
        self.assertEqual(desk.log(), [("bound", "in"), ("bound", "out")])
        self.assertEqual([type(desk.log()), type(desk.log()[0])], [list, tuple])

    def test_by_name(self):
        self.assertEqual(Desk().say(row="bound 3"), "ok")


class LettersTest(unittest.TestCase):
    def test_each_register(self):
        desk = Desk()
        desk.say("program\n" + show_program(program_of("; ".join([f"set {letter}, {at - 8}" for at, letter in enumerate(LETTERS)]))))
        desk.say("draw")
        desk.say("go 16")
        self.assertEqual([desk.say(f"register 0 {letter}") for letter in LETTERS], [str(at - 8) for at in range(16)])


if __name__ == "__main__":
    unittest.main()
