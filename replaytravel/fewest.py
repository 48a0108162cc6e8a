"""The fewest switches by which turns come to a goal.

A place is a state with the thread of the last turn, None at first: what comes
behind hangs on nothing else.
"""

from replaytravel.bounds import MOST_STATES
from replaytravel.errors import TooMany
from replaytravel.goals import comes_to
from replaytravel.states import States, switch_to


def all_states(program, inputs, most):
    """All states that can be come to, or TooMany."""
    states = States(program, inputs)
    waiting = [states.first]
    seen = {states.first: True}
    while waiting:
        if len(states.machines) > most:
            raise TooMany(most)
        state = waiting.pop()
        for thread, behind in states.behind(state):
            if behind not in seen:
                seen[behind] = True
                waiting.append(behind)
    return states


def turns_to(place, froms):
    """The turns to a place, each place found by the one it came from."""
    turns = []
    while froms[place] is not None:
        turns.append(place[1])
        place = froms[place]
    return turns[::-1]


def paper_of(numbers):
    """The paper of the switches by which places were come to."""
    return [(state, thread, number) for (state, thread), number in numbers.items()]


def fewest(program, inputs, goal, *, most=MOST_STATES):
    """(switches, turns, paper) of the fewest switches, or (None, None, paper)."""
    states = all_states(program, inputs, most)
    first = (states.first, None)
    numbers = {first: 0}
    froms = {first: None}
    # Those with one switch more wait until none with as many as now is left.
    waiting, later = [first], []
    while waiting or later:
        if not waiting:
            waiting, later = later, waiting
        place = waiting.pop()
        if comes_to(states.machines[place[0]], goal):
            return (numbers[place], turns_to(place, froms), paper_of(numbers))
        for thread, state in states.behind(place[0]):
            switch = switch_to(place[1], thread)
            behind = (state, thread)
            if behind not in numbers or numbers[place] + switch < numbers[behind]:
                numbers[behind] = numbers[place] + switch
                froms[behind] = place
                if switch == 1:
                    later.append(behind)
                else:
                    waiting.append(behind)
    return (None, None, paper_of(numbers))
