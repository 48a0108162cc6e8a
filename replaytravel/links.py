"""Links: which steps stand straight ahead of which, and the clocks that come of it."""

# Of each word, what it finds next ahead at the place that it touches.
NEXT = {
    "load": ("write",),
    "store": ("write", "load"),
    "swap": ("write", "load"),
    "lock": ("lock",),
    "send": ("send",),
    "take": ("take",),
}

# The words that write the cell that they touch.
WRITES = ("store", "swap")

# Of each word, whose put it reads or takes at the place that it touches.
READS = {"load": "write", "swap": "write", "take": "sent"}

# Of each word, what else there has to be done ahead of it.
NEEDED = {"lock": "free", "take": "sent"}


class Links:
    """Of steps that come one behind the other, those that later ones hang on.

    A list in it is never changed, only replaced, so that a copy may share it.
    """

    def __init__(self):
        self.many = 0
        self.latest = {}

    def found(self, what, where):
        """The numbers of what there is at a place, or of a thread."""
        return self.latest.get((what, where), [])

    def last_of(self, thread):
        """The number of a thread's last step, in a list; none where it did none."""
        return self.found("thread", thread)

    def next_of(self, word, touch):
        """The numbers of those next ahead of a step that comes now, rising."""
        return [number for what in NEXT.get(word, ()) for number in self.found(what, touch)]

    def straight_of(self, thread, word, touch):
        """The numbers of all those straight ahead of a step that comes now."""
        # Of what was sent and not taken yet, a take gets the first.
        needed = self.found(NEEDED.get(word, ""), touch)[:1]
        return self.last_of(thread) + self.next_of(word, touch) + needed

    def read_of(self, word, touch):
        """The number of the step whose put a step that comes now reads or takes, in a list."""
        return self.found(READS.get(word, ""), touch)[:1]

    def note(self, step):
        """Counts a step in: it comes now."""
        thread, at, word, touch, got, put = step
        number = self.many
        self.many += 1
        self.latest[("thread", thread)] = [number]
        if word == "load":
            self.latest[("load", touch)] = self.found("load", touch) + [number]
        elif word in WRITES:
            self.latest[("write", touch)] = [number]
            self.latest[("load", touch)] = []
        elif touch is not None:
            self.latest[(word, touch)] = [number]
        if word == "send":
            self.latest[("sent", touch)] = self.found("sent", touch) + [number]
        elif word == "take":
            self.latest[("sent", touch)] = self.found("sent", touch)[1:]

    def copied(self):
        """Links as these are, that go their own way."""
        twin = Links()
        twin.many = self.many
        twin.latest = {key: self.latest[key] for key in self.latest}
        return twin


def clock_behind(clocks, thread, threads):
    """The clock of a thread's step straight ahead of which those of the clocks stand."""
    most = [0] * threads
    for clock in clocks:
        most = [max(one, other) for one, other in zip(most, clock)]
    most[thread] += 1
    return tuple(most)


class Standing:
    """How the steps of a run stand to one another, by their numbers."""

    def __init__(self, steps, threads):
        self.links = Links()
        self.nexts = []
        self.straights = []
        self.reads = []
        self.clocks = []
        for step in steps:
            self.place(step, threads)

    def place(self, step, threads):
        """Finds what is ahead of the step that comes now."""
        thread, at, word, touch, got, put = step
        straight = self.links.straight_of(thread, word, touch)
        self.nexts.append(self.links.next_of(word, touch))
        self.straights.append(straight)
        self.reads.append(self.links.read_of(word, touch))
        self.clocks.append(clock_behind([self.clocks[number] for number in straight], thread, threads))
        self.links.note(step)
