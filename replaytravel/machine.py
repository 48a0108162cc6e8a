"""The machine: threads that share cells, locks and lines."""

from replaytravel.deeds import MANY, awaited, follow, step_of
from replaytravel.errors import NoPlace, NoThread, NotReady
from replaytravel.expressions import LETTERS, is_letter
from replaytravel.rings import rings_of
from replaytravel.wholes import is_below


def check_place(kind, number):
    """Refuses what is no number of a place of this kind."""
    if not is_below(number, MANY[kind]):
        raise NoPlace(number)


class Machine:
    """A program with its inputs, and how far it has come."""

    def __init__(self, program, inputs):
        self.threads = program
        self.given = tuple([tuple(worths) for worths in inputs])
        self.cells = [0] * MANY["cell"]
        self.locks = [None] * MANY["lock"]
        self.lines = [[] for number in range(MANY["line"])]
        self.registers = [{letter: 0 for letter in LETTERS} for thread in program]
        self.rows = [0 for thread in program]
        self.tellings = [[] for thread in program]
        self.taken = [0 for thread in program]
        self.falls = [False for thread in program]

    def __eq__(self, other):
        return (
            isinstance(other, Machine)
            and self.threads == other.threads
            and self.given == other.given
            and self.state() == other.state()
        )

    def check_thread(self, thread):
        """Refuses what is no number of a thread."""
        if not is_below(thread, len(self.threads)):
            raise NoThread(thread)

    def word(self, thread):
        """What a thread is: ended, fallen, waits or ready."""
        self.check_thread(thread)
        # Not just at the end: a program that goes beyond it does no harm so.
        if self.rows[thread] >= len(self.threads[thread]):
            return "ended"
        if self.falls[thread]:
            return "fallen"
        return "ready" if awaited(self, thread) is None else "waits"

    def words(self):
        """What the threads are, one behind the other."""
        return [self.word(thread) for thread in range(len(self.threads))]

    def ready(self):
        """The threads that are ready."""
        return [thread for thread, word in enumerate(self.words()) if word == "ready"]

    def step(self, thread):
        """A ready thread does its row: the step."""
        word = self.word(thread)
        if word != "ready":
            raise NotReady(None, thread, word)
        done = step_of(self, thread)
        follow(self, done)
        return done

    def row(self, thread):
        """The number of the row that a thread is at."""
        self.check_thread(thread)
        return self.rows[thread]

    def cell(self, number):
        """What a cell holds."""
        check_place("cell", number)
        return self.cells[number]

    def left(self, thread):
        """How many inputs a thread hasn't got yet."""
        self.check_thread(thread)
        return len(self.given[thread]) - self.taken[thread]

    def worth(self, thread, letter):
        """What a letter of a thread holds."""
        self.check_thread(thread)
        if not is_letter(letter):
            raise NoPlace(letter)
        return self.registers[thread][letter]

    def holder(self, lock):
        """The thread that holds a lock, or None."""
        check_place("lock", lock)
        return self.locks[lock]

    def line(self, number):
        """What is in a line, the first thing first."""
        check_place("line", number)
        return list(self.lines[number])

    def told(self, thread):
        """What a thread told, the first thing first."""
        self.check_thread(thread)
        return list(self.tellings[thread])

    def end(self):
        """None while some thread is ready, else over or stuck."""
        words = self.words()
        if "ready" in words:
            return None
        return "stuck" if "waits" in words else "over"

    def waits(self):
        """What each thread that waits is waiting for."""
        waits = []
        for thread in range(len(self.threads)):
            thing = awaited(self, thread)
            if thing is not None:
                waits.append((thread, *thing))
        return waits

    def rings(self):
        """The rings of threads that wait for one another."""
        return rings_of(self.waits())

    def state(self):
        """A text that is the same just where all that may change is alike."""
        held = [list(worths.values()) for worths in self.registers]
        return str([self.cells, held, self.rows, self.locks, self.lines, self.tellings, self.taken, self.falls])

    def copied(self):
        """A machine as this one is, that goes its own way."""
        twin = Machine(self.threads, self.given)
        twin.cells = list(self.cells)
        twin.locks = list(self.locks)
        twin.lines = [list(line) for line in self.lines]
        twin.registers = [dict(worths) for worths in self.registers]
        twin.rows = list(self.rows)
        twin.tellings = [list(told) for told in self.tellings]
        twin.taken = list(self.taken)
        twin.falls = list(self.falls)
        return twin
