"""Boards: places, buttons that turn what stands on them, and ties."""

from seatbuttons.checks import DIGITS, are_signs, check_number, check_place, check_turn, is_button_name, is_integer
from seatbuttons.checks import is_pair, is_turn
from seatbuttons.errors import InvalidButtons, InvalidName, InvalidNames, InvalidNumber, InvalidText, InvalidTies
from seatbuttons.errors import NotABoard, OtherSize, TooMany, UnknownName
from seatbuttons.limits import MOST_BUTTONS, MOST_PLACES
from seatbuttons.unchecked import renamed_by


class Board:
    """A board of so many places, with buttons and ties; it never changes."""

    def __init__(self, size, buttons, ties):
        check_number(size, 1, MOST_PLACES)
        _check_buttons(buttons, size)
        _check_ties(ties, size)
        self._size = size
        self._buttons = tuple(sorted(list(buttons)))
        self._ties = ties
        self._text = _text_with(size, self._buttons, ties)

    @staticmethod
    def read(text):
        """The board with this text."""
        board = board_in(text)
        if board is None:
            raise InvalidText(text)
        return board

    @property
    def size(self):
        """The number of places."""
        return self._size

    @property
    def buttons(self):
        """The tuple of the buttons, ascending."""
        return self._buttons

    @property
    def ties(self):
        """The tuple of the ties, ascending."""
        return self._ties

    @property
    def names(self):
        """The tuple of the names of the buttons, ascending."""
        return tuple([name for name, _ in self._buttons])

    @property
    def text(self):
        """The text of the board."""
        return self._text

    def turn(self, name):
        """The turn of the button with this name."""
        check_known(self, name)
        return self._buttons[self.names.index(name)][1]

    def __eq__(self, other):
        return isinstance(other, Board) and self._text == other._text

    def __str__(self):
        return str(self._text)

    def __repr__(self):
        return f"Board of {self.size} places, {len(self.buttons)} buttons, {len(self.ties)} ties"


def _is_button(given, size, names):
    """Whether it is a button of a board of this size, with a name that is not taken by others."""
    if not is_pair(given) or not is_button_name(given[0]) or given[0] in names:
        return False
    return is_turn(given[1]) and len(given[1]) == size


def _check_buttons(given, size):
    if not isinstance(given, tuple):
        raise InvalidButtons(None)
    names = []
    for index, button in enumerate(given):
        if index >= MOST_BUTTONS or not _is_button(button, size, names):
            raise InvalidButtons(index)
        names.append(button[0])


def _is_tie(given, size):
    if not is_pair(given):
        return False
    return is_integer(given[0], 0, size - 1) and is_integer(given[1], given[0] + 1, size - 1)


def _check_ties(given, size):
    if not isinstance(given, tuple):
        raise InvalidTies(None)
    for index, tie in enumerate(given):
        if not _is_tie(tie, size) or index > 0 and tie <= given[index - 1]:
            raise InvalidTies(index)


def _text_with(size, buttons, ties):
    """The text of the board with this size and these buttons and ties."""
    words = [str(size)]
    for name, turn in buttons:
        words.extend([";", name, *turn])
    for tie in ties:
        words.extend([";", "tie", *tie])
    return " ".join([str(word) for word in words])


def _number_in(word):
    """The number that two digits at most tell, None for other words: no board has such places."""
    if 1 <= len(word) <= 2 and are_signs(word, DIGITS):
        return int(word)
    return None


def _board_told(text):
    """The board that a text tells if its parts may stand in any order and have needless zeros."""
    first, *parts = text.split(" ; ")
    buttons = []
    ties = []
    for part in parts:
        word, *numbers = part.split(" ")
        places = tuple([_number_in(number) for number in numbers])
        if word == "tie":
            ties.append(places)
        else:
            buttons.append((word, places))
    return Board(_number_in(first), tuple(buttons), tuple(ties))


def board_in(given):
    """The board with this text, None if it is that of none, whatever it is."""
    if not isinstance(given, str):
        return None
    try:
        board = _board_told(given)
    except (InvalidNumber, InvalidButtons, InvalidTies):
        return None
    # What stands in another order or form was understood, but is not how the board is written.
    return board if board.text == given else None


def check_board(given):
    if not isinstance(given, Board):
        raise NotABoard(given)


def check_two_boards(one, other):
    check_board(one)
    check_board(other)
    if one.size != other.size:
        raise OtherSize()


def check_board_and_turn(board, turn):
    check_board(board)
    check_turn(turn)
    if board.size != len(turn):
        raise OtherSize()


def check_board_place_and_goal(board, place, goal):
    check_board(board)
    check_place(place, board.size)
    check_place(goal, board.size)


def check_known(board, name):
    """Raises an error if this, whatever it is, is no name of a button of the board."""
    if not isinstance(name, str) or name not in board.names:
        raise UnknownName(name)


def with_button(board, name, turn):
    """The board with this button too, or in the place of the one with this name."""
    check_board(board)
    if not is_button_name(name):
        raise InvalidName(name)
    check_board_and_turn(board, turn)
    buttons = [button for button in board.buttons if button[0] != name]
    if len(buttons) == MOST_BUTTONS:
        raise TooMany(MOST_BUTTONS)
    return Board(board.size, (*buttons, (name, turn)), board.ties)


def without(board, name):
    """The board without this button."""
    check_board(board)
    check_known(board, name)
    return Board(board.size, tuple([button for button in board.buttons if button[0] != name]), board.ties)


def placed(board, turn):
    """The board with all places renamed by the turn."""
    check_board_and_turn(board, turn)
    buttons = [(name, renamed_by(turn, other)) for name, other in board.buttons]
    ties = [tuple(sorted([turn[place], turn[goal]])) for place, goal in board.ties]
    return Board(board.size, tuple(buttons), tuple(sorted(ties)))


def named(board, names):
    """The board with its buttons called otherwise, in the order of their names."""
    check_board(board)
    if not isinstance(names, tuple) or len(names) != len(board.names):
        raise InvalidNames(None)
    for index, name in enumerate(names):
        if not is_button_name(name) or name in names[:index]:
            raise InvalidNames(index)
    buttons = [(name, button[1]) for name, button in zip(names, board.buttons)]
    return Board(board.size, tuple(buttons), board.ties)
