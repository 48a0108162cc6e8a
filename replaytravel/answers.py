"""What a desk does with each row, and how it answers.

Each is handed the desk and the things of the row; what the row needs is there.
Nothing of the desk is changed ahead of what may be refused.
"""

from replaytravel.asking import last_write
from replaytravel.errors import NoThread
from replaytravel.programtexts import read_program
from replaytravel.races import races, weighty
from replaytravel.recordings import Recording
from replaytravel.recordingtexts import read_recording, show_recording
from replaytravel.runs import Run
from replaytravel.traveller import Traveller
from replaytravel.turns import drawn_turns, packed, unpacked
from replaytravel.why import why

OK = "ok"
NOTHING = "-"


def in_words(things):
    """Things parted by blanks, or the sign for nothing."""
    return " ".join([str(thing) for thing in things]) if things else NOTHING


def in_list(rows):
    """Rows of things parted by semicolons, or the sign for nothing."""
    return "; ".join([in_words(row) for row in rows]) if rows else NOTHING


def in_pairs(told):
    """Pairs, each as its four numbers."""
    return in_list([one + other for one, other in told])


def keep_program(desk, program, inputs):
    """Keeps a program with its inputs; what was recorded goes."""
    desk.threads = program
    desk.given = inputs
    desk.recording = None
    desk.traveller = None


def keep_recording(desk, recording):
    """Keeps a recording, and a traveller of it."""
    desk.recording = recording
    desk.traveller = Traveller(recording)


def record(desk, turns):
    """Records the run of turns."""
    keep_recording(desk, Recording(Run(desk.threads, desk.given, turns), bound=desk.limit))
    return OK


def answer_program(desk, text):
    """Takes a program."""
    program = read_program(text)
    keep_program(desk, program, [[] for thread in program])
    return OK


def answer_inputs(desk, thread, *worths):
    """Takes a thread's inputs."""
    if thread >= len(desk.threads):
        raise NoThread(thread)
    inputs = list(desk.given)
    inputs[thread] = list(worths)
    keep_program(desk, desk.threads, inputs)
    return OK


def answer_bound(desk, bound):
    """Takes the bound of later recordings."""
    desk.limit = bound
    return OK


def answer_run(desk, text):
    """Records the run of packed turns."""
    return record(desk, unpacked(text))


def answer_draw(desk, *numbers):
    """Records the run that numbers draw."""
    return record(desk, drawn_turns(desk.threads, desk.given, numbers))


def answer_read(desk, text):
    """Takes a recording with its program and inputs."""
    recording = read_recording(text)
    run = recording.run()
    keep_program(desk, run.program(), run.inputs())
    keep_recording(desk, recording)
    return OK


def answer_text(desk):
    """The recording's text."""
    return show_recording(desk.recording)


def answer_turns(desk):
    """The turns, packed."""
    return packed(desk.recording.run().turns())


def answer_pairs(desk):
    """The pairs."""
    return in_pairs(desk.recording.pairs())


def answer_races(desk):
    """The races."""
    return in_pairs(races(desk.recording.run()))


def answer_weighty(desk):
    """The weighty pairs."""
    return in_pairs(weighty(desk.recording.run()))


def answer_kept(desk):
    """The kept times."""
    return in_words(desk.recording.kept())


def answer_go(desk, time):
    """Goes to a time."""
    return str(desk.traveller.go(time))


def answer_on(desk):
    """Goes on by one."""
    return str(desk.traveller.on())


def answer_back(desk):
    """Goes back by one."""
    return str(desk.traveller.back())


def answer_next(desk, thread, row):
    """Goes to the next step of a row of a thread."""
    return str(desk.traveller.to_next(thread, row))


def answer_last(desk, thread, row):
    """Goes to the last step of a row of a thread."""
    return str(desk.traveller.to_last(thread, row))


def answer_cell(desk, cell):
    """What a cell holds."""
    return str(desk.traveller.now().cell(cell))


def answer_register(desk, thread, letter):
    """What a letter of a thread holds."""
    return str(desk.traveller.now().worth(thread, letter))


def answer_threads(desk):
    """Each thread's word."""
    return in_words(desk.traveller.now().words())


def answer_wrote(desk, cell):
    """The last write of a cell: its number, thread and row."""
    number = last_write(desk.recording, desk.traveller.at(), cell)
    if number is None:
        return NOTHING
    step = desk.recording.run().done[number]
    return in_words([number, step[0], step[1]])


def answer_why(desk, cell):
    """The numbers of the steps from which comes what a cell holds."""
    rows = why(desk.recording.run(), desk.traveller.at(), cell)
    return in_words(sorted({number for number, part, told in rows}))


def answer_waits(desk):
    """Who waits for what."""
    waits = desk.traveller.now().waits()
    return in_list([[thing for thing in wait if thing is not None] for wait in waits])


ANSWERS = {
    "program": answer_program,
    "inputs": answer_inputs,
    "bound": answer_bound,
    "run": answer_run,
    "draw": answer_draw,
    "read": answer_read,
    "text": answer_text,
    "turns": answer_turns,
    "pairs": answer_pairs,
    "races": answer_races,
    "weighty": answer_weighty,
    "kept": answer_kept,
    "go": answer_go,
    "on": answer_on,
    "back": answer_back,
    "next": answer_next,
    "last": answer_last,
    "cell": answer_cell,
    "register": answer_register,
    "threads": answer_threads,
    "wrote": answer_wrote,
    "why": answer_why,
    "waits": answer_waits,
}
