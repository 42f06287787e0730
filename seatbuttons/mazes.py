"""Mazes: what looks tell of the turns of one or two hidden buttons that are pressed over and over."""

from itertools import permutations

from seatbuttons.boards import check_board
from seatbuttons.checks import is_button_name
from seatbuttons.errors import Impossible, InvalidNames, NotAMaze, TooMany
from seatbuttons.looks import check_looks, is_long_look
from seatbuttons.unchecked import along, led_back, one_then, raised_to, rings_in, things_of

MOST_HIDDEN = 2
MOST_TIMES_HIDDEN = 12
MOST_GUESSED = 5


class Maze:
    """A board of few places, the names of hidden buttons, and looks; it never changes."""

    def __init__(self, board, names, looks):
        check_board(board)
        _check_names(names, board)
        _check_looks(looks, board, names)
        if board.size > MOST_GUESSED:
            raise TooMany(MOST_GUESSED)
        self._board = board
        self._names = names
        self._looks = looks

    @property
    def board(self):
        """The board, without the hidden buttons."""
        return self._board

    @property
    def names(self):
        """The ascending tuple of the names of the hidden buttons."""
        return self._names

    @property
    def looks(self):
        """The tuple of the looks."""
        return self._looks

    def __eq__(self, other):
        # Not left to the other side, which may say that it equals anything.
        return self is other


def _check_names(given, board):
    if not isinstance(given, tuple) or len(given) == 0:
        raise InvalidNames(None)
    for index, name in enumerate(given):
        if index >= MOST_HIDDEN or not is_button_name(name) or name in board.names:
            raise InvalidNames(index)
        if index > 0 and name <= given[index - 1]:
            raise InvalidNames(index)


def _check_looks(given, board, names):
    check_looks(given, lambda look: is_long_look(look, board, names, MOST_TIMES_HIDDEN))


def _check_maze(given):
    if not isinstance(given, Maze):
        raise NotAMaze(given)


class Table:
    """All turns of so many places by their indexes: what two of them make, and their powers."""

    def __init__(self, size):
        # Ascending, so that with the first one all stay.
        self.turns = list(permutations(range(size)))
        self.at = {turn: index for index, turn in enumerate(self.turns)}
        self.behind = [[self.at[one_then(one, other)] for other in self.turns] for one in self.turns]
        self.powers = {}
        for number in range(-MOST_TIMES_HIDDEN, MOST_TIMES_HIDDEN + 1):
            self.powers[number] = [self.at[raised_to(turn, number)] for turn in self.turns]


def _pieces(table, maze, row):
    """The list of what the presses of a row do: the index of a hidden name, and what each turn of it does.

    The index is None for what the board's buttons do; then just that is told.
    """
    rings = {name: rings_in(turn) for name, turn in maze.board.buttons}
    pieces = []
    for name, number in row:
        if name in maze.names:
            pieces.append((maze.names.index(name), table.powers[number]))
        else:
            pieces.append((None, table.at[along(maze.board.size, rings[name], number)]))
    return pieces


def _fitting(table, maze, look, guesses_left):
    """The list of those guesses, tuples of indexes of turns, with which a look is as it was."""
    before, row, after = look
    pieces = _pieces(table, maze, row)
    makes = [things_of(before, led_back(turn)) == after for turn in table.turns]
    found = []
    for guess in guesses_left:
        at = 0
        for hidden, told in pieces:
            at = table.behind[at][told if hidden is None else told[guess[hidden]]]
        if makes[at]:
            found.append(guess)
    return found


def _guesses(maze):
    """The list of the guesses that fit, ascending."""
    table = Table(maze.board.size)
    left = [()]
    for _ in maze.names:
        left = [(*guess, at) for guess in left for at in range(len(table.turns))]
    # Behind the short rows fewer guesses are left for the long ones.
    for look in sorted(list(maze.looks), key=lambda seen: len(seen[1])):
        left = _fitting(table, maze, look, left)
    return [tuple([table.turns[at] for at in guess]) for guess in left]


def guesses(maze):
    """The ascending tuple of the guesses that fit."""
    _check_maze(maze)
    return tuple(_guesses(maze))


def count_guesses(maze):
    """How many guesses fit."""
    return len(guesses(maze))


def sure_turns(maze):
    """For each hidden name its turn, None if this is not the same in all guesses that fit."""
    found = guesses(maze)
    if len(found) == 0:
        raise Impossible()
    # They ascend, but only the first turns of them do so by themselves.
    turns = [[guess[at] for guess in found] for at in range(len(maze.names))]
    return tuple([some[0] if min(some) == max(some) else None for some in turns])
