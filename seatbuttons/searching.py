"""Going on step by step: what is come to from a start, and by how few steps."""

from seatbuttons.errors import TooMany
from seatbuttons.limits import MOST_PRESSES
from seatbuttons.unchecked import led_back


def single_presses(board):
    """The list of pairs of a single press and its turn; where 1 and -1 do the same, with 1 alone."""
    presses = []
    for name, turn in board.buttons:
        presses.append(((name, 1), turn))
        if led_back(turn) != turn:
            presses.append(((name, -1), led_back(turn)))
    return presses


def search(start, steps_from, most):
    """All that is come to from the start, what takes fewer steps first; TooMany if that is too many.

    `steps_from` tells the pairs (step, what comes of it). The dict that is returned tells of
    each thing the one before it, the step that leads here from that one, and how many steps it
    takes in all.
    """
    found = {start: (None, None, 0)}
    waiting = [start]
    at = 0
    while at < len(waiting):
        here = waiting[at]
        many = found[here][2] + 1
        for step, there in steps_from(here):
            if there not in found:
                found[there] = (here, step, many)
                waiting.append(there)
        if len(found) > most:
            raise TooMany(most)
        at = at + 1
    return found


def count_lots(things, lot_of):
    """How many lots these things are in, `lot_of` telling all that are in the lot of one."""
    met = set()
    many = 0
    for thing in things:
        if thing not in met:
            many = many + 1
            for other in lot_of(thing):
                met.add(other)
    return many


def fewest_to(found, goal):
    """By how few steps a search came to the goal, None if it did not."""
    return found[goal][2] if goal in found else None


def steps_found(found, goal):
    """Any tuple of so few steps, None if the search did not come to the goal."""
    if goal not in found:
        return None
    steps = []
    before, step, left = found[goal]
    while left > 0:
        steps.append(step)
        before, step, left = found[before]
    return tuple(steps[::-1])


def few_steps_found(found, goal):
    """These steps, if they are not more than a row or a tuple of steps has."""
    if goal in found and found[goal][2] > MOST_PRESSES:
        raise TooMany(MOST_PRESSES)
    return steps_found(found, goal)
