"""States that a program with inputs comes to, each found and stepped once."""

from replaytravel.machine import Machine


class States:
    """The states found so far, by their texts, from the first one on."""

    def __init__(self, program, inputs):
        machine = Machine(program, inputs)
        self.first = machine.state()
        self.machines = {self.first: machine}
        self.onward = {}

    def stepped(self, state, thread):
        """The state behind a ready thread's step."""
        machine = self.machines[state].copied()
        machine.step(thread)
        behind = machine.state()
        self.machines.setdefault(behind, machine)
        return behind

    def behind(self, state):
        """The steps from a state: of each ready thread, (thread, the state behind)."""
        if state not in self.onward:
            ready = self.machines[state].ready()
            self.onward[state] = [(thread, self.stepped(state, thread)) for thread in ready]
        return list(self.onward[state])


def switch_to(last, thread):
    """1 where a turn of a thread behind the last turn's is a switch, else 0."""
    return 0 if last is None or last == thread else 1
