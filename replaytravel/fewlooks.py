"""Looks at papers told by anybody: whether they bar fewer switches, or a goal at all."""

from replaytravel.goals import comes_to
from replaytravel.states import States, switch_to
from replaytravel.wholes import is_whole


def is_paper_row(thing):
    """Whether anything is a tuple of a text, a thread or None, and a number from 0 on."""
    if not isinstance(thing, tuple) or len(thing) != 3:
        return False
    state, thread, number = thing
    return isinstance(state, str) and (thread is None or is_whole(thread)) and is_whole(number) and number >= 0


def numbers_in(paper):
    """Of each place in anything its number; none where it is no list of such rows, each place once."""
    if not isinstance(paper, list) or not all([is_paper_row(row) for row in paper]):
        return {}
    numbers = {(state, thread): number for state, thread, number in paper}
    return numbers if len(numbers) == len(paper) else {}


def goes_on(states, numbers, place):
    """Whether all places behind one are told with no switches more than it takes to come there."""
    for thread, state in states.behind(place[0]):
        due = numbers[place] + switch_to(place[1], thread)
        if numbers.get((state, thread), due + 1) > due:
            return False
    return True


def bars_fewer(program, inputs, goal, number, paper):
    """Whether anything is a paper that bars fewer switches than a number, or the goal at all."""
    numbers = numbers_in(paper)
    states = States(program, inputs)
    first = (states.first, None)
    if numbers.get(first, 1) != 0:
        return False
    reached = {first: True}
    waiting = [first]
    while waiting:
        place = waiting.pop()
        if number is None or numbers[place] < number:
            if comes_to(states.machines[place[0]], goal) or not goes_on(states, numbers, place):
                return False
        for thread, state in states.behind(place[0]):
            if (state, thread) in numbers and (state, thread) not in reached:
                reached[(state, thread)] = True
                waiting.append((state, thread))
    # A row that wasn't come to from the first one on makes it no paper.
    return len(reached) == len(numbers)
