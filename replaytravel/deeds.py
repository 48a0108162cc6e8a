"""What the row of a thread does: which step it is, and what it changes."""

from replaytravel.expressions import reckoned

# How many places of each kind there are, numbered from 0.
MANY = {"cell": 64, "lock": 8, "line": 8}

# What the words touch, and which item of the row tells its number.
PLACES = {
    "load": ("cell", 2),
    "store": ("cell", 1),
    "swap": ("cell", 2),
    "lock": ("lock", 1),
    "free": ("lock", 1),
    "send": ("line", 1),
    "take": ("line", 2),
}

# Which item of the row tells what is put somewhere.
PUTS = {"store": 2, "swap": 3, "send": 2, "tell": 1}


def row_of_thread(machine, thread):
    """The row that a thread is at, or None where it is behind its last one."""
    rows = machine.threads[thread]
    at = machine.rows[thread]
    return rows[at] if at < len(rows) else None


def touch_of(row, held):
    """What a row touches; None where it is nothing, or nothing that is there."""
    if row[0] not in PLACES:
        return None
    kind, item = PLACES[row[0]]
    number = reckoned(row[item], held)
    return (kind, number) if 0 <= number < MANY[kind] else None


def awaited(machine, thread):
    """What a thread waits for, (kind, number, holder), or None."""
    row = row_of_thread(machine, thread)
    # Whoever fell at a lock or a take has no place there that it could await.
    touch = None if row is None else touch_of(row, machine.registers[thread])
    if touch is None:
        return None
    number = touch[1]
    if row[0] == "lock" and machine.locks[number] is not None:
        return ("lock", number, machine.locks[number])
    if row[0] == "take" and not machine.lines[number]:
        return ("line", number, None)
    return None


def must_fall(machine, thread, row, touch):
    """Whether a ready thread falls at its row."""
    word = row[0]
    if word in PLACES and touch is None:
        return True
    if word == "free":
        return machine.locks[touch[1]] != thread
    if word == "check":
        return reckoned(row[1], machine.registers[thread]) == 0
    return word == "input" and machine.left(thread) == 0


def got_of(machine, thread, row, touch):
    """What a row lays in a letter, or None."""
    word = row[0]
    if word == "set":
        return reckoned(row[2], machine.registers[thread])
    if word == "load" or word == "swap":
        return machine.cells[touch[1]]
    if word == "take":
        return machine.lines[touch[1]][0]
    if word == "input":
        return machine.given[thread][machine.taken[thread]]
    return None


def put_of(machine, thread, row):
    """What a row stores, sends or tells, or None."""
    if row[0] not in PUTS:
        return None
    return reckoned(row[PUTS[row[0]]], machine.registers[thread])


def step_of(machine, thread):
    """The step that a ready thread would do; nothing is changed yet."""
    at = machine.rows[thread]
    row = row_of_thread(machine, thread)
    touch = touch_of(row, machine.registers[thread])
    if must_fall(machine, thread, row, touch):
        return (thread, at, "falls", None, None, None)
    return (thread, at, row[0], touch, got_of(machine, thread, row, touch), put_of(machine, thread, row))


def row_behind(machine, thread):
    """The number of the row that a thread goes on to, where it doesn't fall."""
    row = row_of_thread(machine, thread)
    if row[0] == "go":
        return row[1]
    if row[0] == "if" and reckoned(row[1], machine.registers[thread]) != 0:
        return row[2]
    return machine.rows[thread] + 1


def change_shared(machine, step):
    """Does to cells, locks and lines what a step does."""
    thread, at, word, touch, got, put = step
    if word == "store" or word == "swap":
        machine.cells[touch[1]] = put
    elif word == "lock":
        machine.locks[touch[1]] = thread
    elif word == "free":
        machine.locks[touch[1]] = None
    elif word == "send":
        machine.lines[touch[1]].append(put)
    elif word == "take":
        machine.lines[touch[1]].pop(0)


def follow(machine, step):
    """Does to a machine all that a step does."""
    thread, at, word, touch, got, put = step
    if word == "falls":
        machine.falls[thread] = True
        return
    row = row_of_thread(machine, thread)
    # Ahead of all changes: an if looks at the letters as they are now.
    behind = row_behind(machine, thread)
    change_shared(machine, step)
    if got is not None:
        machine.registers[thread][row[1]] = got
    if word == "input":
        machine.taken[thread] += 1
    elif word == "tell":
        machine.tellings[thread].append(put)
    machine.rows[thread] = behind
