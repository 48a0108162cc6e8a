"""Runs: turns done on a machine, and the steps that came of them."""

from replaytravel.deeds import follow
from replaytravel.errors import NoStep, NoTime, NotReady
from replaytravel.links import Standing
from replaytravel.machine import Machine
from replaytravel.wholes import is_below, is_whole


def steps_done(machine, turns):
    """Does turns on a machine: the steps."""
    steps = []
    for nth, thread in enumerate(turns):
        try:
            steps.append(machine.step(thread))
        except NotReady as refusal:
            raise NotReady(nth, refusal.who, refusal.what) from None
    return steps


def names_of(turns):
    """The names of the steps of turns: the thread, and how many it had ahead."""
    many = {}
    names = []
    for thread in turns:
        names.append((thread, many.get(thread, 0)))
        many[thread] = many.get(thread, 0) + 1
    return names


def is_name(thing):
    """Whether anything is a tuple of two whole numbers, as names are."""
    return isinstance(thing, tuple) and len(thing) == 2 and is_whole(thing[0]) and is_whole(thing[1])


class Run:
    """A run of a program with inputs, by its turns."""

    def __init__(self, program, inputs, turns):
        self.last = Machine(program, inputs)
        self.order = list(turns)
        self.done = steps_done(self.last, self.order)
        self.called = names_of(self.order)
        self.places = {name: number for number, name in enumerate(self.called)}
        self.stood = None

    def __eq__(self, other):
        return (
            isinstance(other, Run)
            and self.program() == other.program()
            and self.inputs() == other.inputs()
            and self.turns() == other.turns()
        )

    def __len__(self):
        return len(self.done)

    def program(self):
        """The program."""
        return self.last.threads

    def inputs(self):
        """The inputs of each thread."""
        return [list(worths) for worths in self.last.given]

    def turns(self):
        """The threads' numbers, turn by turn."""
        return list(self.order)

    def steps(self):
        """The steps' tuples, by numbers."""
        return list(self.done)

    def names(self):
        """The steps' names, by numbers."""
        return list(self.called)

    def has(self, thing):
        """Whether anything is the name of a step."""
        return is_name(thing) and thing in self.places

    def number(self, name):
        """The number of the step of a name."""
        if not self.has(name):
            raise NoStep(name)
        return self.places[name]

    def check_number(self, number):
        """Refuses what is no number of a step."""
        if not is_below(number, len(self.done)):
            raise NoStep(number)

    def check_time(self, time):
        """Refuses what is no time."""
        if not is_below(time, len(self.done) + 1):
            raise NoTime(time)

    def machine(self, time):
        """The machine as it is at a time."""
        self.check_time(time)
        machine = Machine(self.last.threads, self.last.given)
        for step in self.done[:time]:
            follow(machine, step)
        return machine

    def is_over(self):
        """Whether no thread is ready behind the last step."""
        return self.last.ready() == []

    def standing(self):
        """How the steps stand to one another; found when it is first asked for."""
        if self.stood is None:
            self.stood = Standing(self.done, len(self.last.threads))
        return self.stood
