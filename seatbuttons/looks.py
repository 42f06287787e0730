"""Looks: what rows with hidden buttons were seen to make of standings."""

from seatbuttons.checks import is_integer, is_standing
from seatbuttons.errors import InvalidLooks
from seatbuttons.limits import MOST_LOOKS
from seatbuttons.presses import is_row_of, turn_of_row
from seatbuttons.unchecked import led_back, things_of


def has_form_of_look(given, board, hidden):
    """Whether it is two standings, and between them a row of presses of the board's and the hidden buttons."""
    if not isinstance(given, tuple) or len(given) != 3:
        return False
    before, row, after = given
    if not is_standing(before, board.size) or not is_standing(after, board.size):
        return False
    return is_row_of((*board.names, *hidden), row)


def is_look(given, board, name):
    """Whether it is a look for one hidden button, which is pressed once."""
    if not has_form_of_look(given, board, (name,)):
        return False
    numbers = [number for pressed, number in given[1] if pressed == name]
    return len(numbers) == 1 and abs(numbers[0]) == 1


def is_long_look(given, board, hidden, most):
    """Whether it is a look for hidden buttons that are pressed as often as one likes, so many times at once."""
    if not has_form_of_look(given, board, hidden):
        return False
    return all([is_integer(number, -most, most) for name, number in given[1] if name in hidden])


def check_looks(given, is_one):
    """Raises an error if it is no tuple of looks; `is_one` tells whether something is one."""
    if not isinstance(given, tuple):
        raise InvalidLooks(None)
    for index, look in enumerate(given):
        if index >= MOST_LOOKS or not is_one(look):
            raise InvalidLooks(index)


def near_and_far(look, board, name):
    """The near and the far standing of a look, between which the turn of the hidden button leads."""
    before, row, after = look
    at = [pressed for pressed, _ in row].index(name)
    near = things_of(before, led_back(turn_of_row(board, row[:at])))
    far = things_of(after, turn_of_row(board, row[at + 1:]))
    return (near, far) if row[at][1] == 1 else (far, near)
