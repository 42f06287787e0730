"""Rows of presses: their texts, their turns, and what they make of standings."""

from seatbuttons.boards import check_board
from seatbuttons.checks import DIGITS, LETTERS, are_signs, check_number, check_place, check_standing
from seatbuttons.checks import is_integer, is_name, is_pair
from seatbuttons.errors import InvalidRow, InvalidText
from seatbuttons.limits import MOST_PRESSES, MOST_TIMES
from seatbuttons.unchecked import along, led_back, number_back, one_then, raised_to, rings_in, staying, things_of

MOST_DIGITS = 31


def is_press_of(names, given):
    """Whether it is a press of a button with one of these names."""
    if not is_pair(given) or not isinstance(given[0], str) or given[0] not in names:
        return False
    return is_integer(given[1], -MOST_TIMES, MOST_TIMES) and given[1] != 0


def is_row_of(names, given):
    """Whether it is a row of presses of buttons with these names."""
    if not isinstance(given, tuple) or len(given) > MOST_PRESSES:
        return False
    return all([is_press_of(names, press) for press in given])


def check_row(board, given):
    if not isinstance(given, tuple):
        raise InvalidRow(None)
    for index, press in enumerate(given):
        if index >= MOST_PRESSES or not is_press_of(board.names, press):
            raise InvalidRow(index)


def _check_board_and_row(board, row):
    check_board(board)
    check_row(board, row)


def _number_in(word):
    """The number that the end of a press tells, 0, which no press has, if it tells none."""
    if word == "":
        return 1
    digits = word.removeprefix("-")
    if 1 <= len(digits) <= MOST_DIGITS and are_signs(digits, DIGITS):
        return int(word)
    return 0


def _press_in(word):
    """The name and the number that a word tells if the number may have needless signs."""
    ahead = 0
    while ahead < len(word) and word[ahead] in LETTERS:
        ahead = ahead + 1
    return word[:ahead], _number_in(word[ahead:])


def _text_with(row):
    if len(row) == 0:
        return "-"
    return " ".join([name if number == 1 else f"{name}{number}" for name, number in row])


def row_in(text):
    """The row with this text, of whatever names, None if it is that of none."""
    row = () if text == "-" else tuple([_press_in(word) for word in text.split(" ")])
    names = [name for name, _ in row if is_name(name)]
    # A number with needless signs was understood, but is not how the row is written.
    return row if is_row_of(names, row) and _text_with(row) == text else None


def row_of(board, text):
    """The row of the board with this text."""
    check_board(board)
    row = row_in(text) if isinstance(text, str) else None
    if row is None or not is_row_of(board.names, row):
        raise InvalidText(text)
    return row


def text_of(board, row):
    """The text of a row."""
    _check_board_and_row(board, row)
    return _text_with(row)


def _turns_of_presses(board, row):
    """The list of the turns of all presses of a row."""
    found = {name: rings_in(turn) for name, turn in board.buttons}
    return [along(board.size, found[name], number) for name, number in row]


def turn_of_row(board, row):
    """The turn of a row that is known to be one of the board."""
    made = staying(board.size)
    for turn in _turns_of_presses(board, row):
        made = one_then(made, turn)
    return made


def pressed(board, row):
    """The turn of a row."""
    _check_board_and_row(board, row)
    return turn_of_row(board, row)


def length(board, row):
    """The length of a row: the sum of its numbers, each without its sign."""
    _check_board_and_row(board, row)
    return sum([abs(number) for _, number in row])


def row_back(board, row):
    """The row that leads back: the presses the other way round, with the other signs."""
    _check_board_and_row(board, row)
    return tuple([(name, -number) for name, number in row[::-1]])


def times(board, row, number):
    """The power of the turn of a row with a number."""
    _check_board_and_row(board, row)
    check_number(number, -MOST_TIMES, MOST_TIMES)
    return raised_to(turn_of_row(board, row), number)


def back_after_row(board, row):
    """The least number from 1 on with which the power of a row's turn lets all stay."""
    return number_back(pressed(board, row))


def same(board, one, other):
    """Whether two rows make one turn."""
    return first_unlike(board, one, other) is None


def first_unlike(board, one, other):
    """The least place whose thing two rows lead to unlike places, None if there is none."""
    _check_board_and_row(board, one)
    check_row(board, other)
    for place, goals in enumerate(zip(turn_of_row(board, one), turn_of_row(board, other))):
        if goals[0] != goals[1]:
            return place
    return None


def on(board, row, standing):
    """The standing that a row makes of a standing."""
    _check_board_and_row(board, row)
    check_standing(standing, board.size)
    return things_of(standing, led_back(turn_of_row(board, row)))


def way(board, row, place):
    """The places on which what stands on a place is at first and behind each press."""
    _check_board_and_row(board, row)
    check_place(place, board.size)
    places = [place]
    for turn in _turns_of_presses(board, row):
        places.append(turn[places[-1]])
    return tuple(places)


def _nearest_to_nought(number, again):
    """Of all numbers that differ by multiples of `again` the one nearest to 0, of two the one above."""
    least = number % again
    return least if 2 * least <= again else least - again


def shortened(board, row):
    """The row without what neighbouring presses of one button take back or do in vain."""
    _check_board_and_row(board, row)
    again = {name: number_back(turn) for name, turn in board.buttons}
    kept = []
    for name, number in row:
        # What stands last in `kept` is always shortened, so only this press can join it.
        if len(kept) > 0 and kept[-1][0] == name:
            number = number + kept.pop()[1]
        number = _nearest_to_nought(number, again[name])
        if number != 0:
            kept.append((name, number))
    return tuple(kept)
