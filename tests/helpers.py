"""What several test files share."""

from replaytravel.errors import NoText
from replaytravel.machine import Machine
from replaytravel.programtexts import read_program
from replaytravel.runs import Run

SIGNS = ("+", "-", "*", "/", "#", "<", "=", "&", "^")
LETTERS = "abcdefghijklmnop"
A, B = ("a",), ("b", 1, "+")

# Each word's row with the right things, in a thread of one row.
ROWS = [
    ("set", "a", B),
    ("load", "a", B),
    ("store", A, B),
    ("swap", "a", A, B),
    ("lock", A),
    ("free", A),
    ("send", A, B),
    ("take", "a", B),
    ("input", "a"),
    ("tell", A),
    ("check", A),
    ("if", A, 0),
    ("go", 0),
]


def anything():
    """Things of each kind that "of anything" names, within one another too."""
    plain = [None, True, False, 0, 1, -1, 2, 3, 4, 7, 8, 63, 64, 65536, 10 ** 29, -(10 ** 29), 10 ** 5000,
             "", "a", "p", "q", "ab", "0", "+", "go", "thread", "\n"]
    held = [(), [], {}, ("a",), (0,), (True,), [0], ["a"], {"a": 0}, {0: 0}, (0, 0), (0, True), (False, 0),
            [0, 0], (None,), ((), ()), ([],), ({},), ((0,), [0], {"a": (0,)}), (0, 0, 0)]
    deep = [deep_in(lambda x: (x,)), deep_in(lambda x: [x]), deep_in(lambda x: {"a": x})]
    return plain + held + deep


def deep_in(wrap):
    thing = 0
    for _ in range(12):
        thing = wrap(thing)
    return thing


def drawn(seed, many):
    """A row of numbers that is the same on every machine."""
    numbers = []
    for _ in range(many):
        seed = (seed * 1103515245 + 12345) % 2147483648
        numbers.append(seed // 65536)
    return numbers


def some_expression(numbers):
    """An expression put together from at least sixteen drawn numbers."""
    items, height = [], 0
    leaves = 1 + numbers[0] % 8
    for number in numbers[1:]:
        if height >= 2 and (leaves == 0 or number % 3 == 0):
            items.append(SIGNS[number // 3 % 9])
            height -= 1
        elif leaves:
            items.append(LETTERS[number // 2 % 16] if number % 2 else number * 7 % 65536 - 32768)
            height += 1
            leaves -= 1
    return tuple(items)


def refused_text(case, read, text, nth):
    """Asserts that a text is refused, and at which row."""
    with case.subTest(text=text[:60]):
        with case.assertRaises(NoText) as caught:
            read(text)
        case.assertIs(type(caught.exception), NoText)
        case.assertIs(type(caught.exception.nth), int)
        case.assertEqual(caught.exception.nth, nth)


def refused_two(case, refusal, ask, one, other):
    """Asserts that what is asked is refused with the very two things."""
    with case.assertRaises(refusal) as caught:
        ask()
    case.assertIs(type(caught.exception), refusal)
    case.assertIs(caught.exception.one, one)
    case.assertIs(caught.exception.other, other)


def program_of(*threads):
    """A program, each thread told by its rows with semicolons between."""
    rows = []
    for thread in threads:
        rows += ["thread"] + [row.strip() for row in thread.split(";") if row.strip()]
    return read_program("\n".join(rows))


def machine_of(*threads, inputs=None):
    """A machine of a program told so; no inputs where none are told."""
    return Machine(program_of(*threads), [[] for _ in threads] if inputs is None else inputs)


def is_number_below(thing, many):
    return type(thing) is int and 0 <= thing < many


def picture(machine, threads):
    """All that can be asked of a machine, thing by thing."""
    told = {("cell", n): machine.cell(n) for n in range(64)}
    told.update({("lock", n): machine.holder(n) for n in range(8)})
    told.update({("line", n): machine.line(n) for n in range(8)})
    for thread in range(threads):
        told["row", thread] = machine.row(thread)
        told["left", thread] = machine.left(thread)
        told["told", thread] = machine.told(thread)
        told["fallen", thread] = machine.word(thread) == "fallen"
        told.update({(letter, thread): machine.worth(thread, letter) for letter in LETTERS})
    return told


def changed(before, behind):
    """What of a picture is another behind."""
    return {key: behind[key] for key in behind if behind[key] != before[key]}


def run_of(*threads, turns, inputs=None):
    """A run of a program told so, its turns as a text or a list of numbers."""
    return Run(program_of(*threads), [[] for _ in threads] if inputs is None else inputs, [int(turn) for turn in turns])
