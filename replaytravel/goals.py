"""Goals: what a machine may come to."""


def comes_to(machine, goal):
    """Whether a machine, as it is, comes to a goal."""
    if goal[0] == "falls":
        return machine.word(goal[1]) == "fallen" and machine.row(goal[1]) == goal[2]
    if goal[0] == "stuck":
        return machine.end() == "stuck"
    if goal[0] == "cell":
        return machine.cell(goal[1]) == goal[2]
    return goal[2] in machine.told(goal[1])
