"""Makings: steps, each of which makes a turn of a board out of those before it."""

from seatbuttons.checks import is_integer, is_pair
from seatbuttons.errors import InvalidMaking, TooMany
from seatbuttons.limits import MOST_MAKING, MOST_PRESSES
from seatbuttons.unchecked import led_back, one_then, staying


def _is_step(board, given, index):
    """Whether it is a step that may stand at this index."""
    if given is None:
        return True
    if isinstance(given, str):
        return given in board.names
    if is_pair(given):
        return is_integer(given[0], 0, index - 1) and is_integer(given[1], 0, index - 1)
    return is_integer(given, 0, index - 1)


def check_making(board, given):
    if not isinstance(given, tuple) or len(given) == 0:
        raise InvalidMaking(None)
    for index, step in enumerate(given):
        if index >= MOST_MAKING or not _is_step(board, step, index):
            raise InvalidMaking(index)


def is_making(board, given):
    """Whether any value is a making for the board."""
    try:
        check_making(board, given)
    except InvalidMaking:
        return False
    return True


def turns_of_steps(board, steps):
    """The list of the turns that the steps of a making make."""
    turns = []
    for step in steps:
        if step is None:
            turns.append(staying(board.size))
        elif isinstance(step, str):
            turns.append(board.turn(step))
        elif isinstance(step, tuple):
            turns.append(one_then(turns[step[0]], turns[step[1]]))
        else:
            turns.append(led_back(turns[step]))
    return turns


def _joined(one, other, at):
    """What is told of the step `at`, a pair of steps of which this is told."""
    if one[2] == 0 or other[2] == 0:
        return one if other[2] == 0 else other
    # Numbers above the limit are told apart by nobody, and would have thousands of digits.
    return at, False, min(one[2] + other[2], MOST_PRESSES + 1)


def _without_detours(steps):
    """For each step a step whose row it has, whether the other way round, and how many presses.

    The steps that are told are names, and pairs of which both rows have presses: with these alone
    each row is written in twice as many steps as it has presses, however long the making is.
    """
    found = []
    for at, step in enumerate(steps):
        if step is None:
            found.append((at, False, 0))
        elif isinstance(step, str):
            found.append((at, False, 1))
        elif isinstance(step, tuple):
            found.append(_joined(found[step[0]], found[step[1]], at))
        else:
            found.append((found[step][0], not found[step][1], found[step][2]))
    return found


def row_of_steps(steps):
    """The row of presses that a making tells, each press with 1 or -1."""
    found = _without_detours(steps)
    if found[-1][2] > MOST_PRESSES:
        raise TooMany(MOST_PRESSES)
    row = []
    waiting = [found[-1]]
    while len(waiting) > 0:
        at, is_back, many = waiting.pop()
        if many == 1:
            row.append((steps[at], -1 if is_back else 1))
        elif many > 1:
            one, other = found[steps[at][0]], found[steps[at][1]]
            # What is put down last is taken up first.
            later = [one, other] if is_back else [other, one]
            waiting.extend([(index, back != is_back, fewer) for index, back, fewer in later])
    return tuple(row)
