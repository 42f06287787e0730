"""Benches: standings of a board that are led by hand, deed by deed."""

from seatbuttons.boards import check_board, check_known
from seatbuttons.checks import check_place, check_standing, is_integer
from seatbuttons.errors import InvalidDeeds, InvalidNumber, NoSlide, NothingToUndo
from seatbuttons.limits import MOST_TIMES
from seatbuttons.presses import check_row, is_press_of, is_row_of, turn_of_row
from seatbuttons.trials import Trial
from seatbuttons.unchecked import led_back, things_of
from seatbuttons.yards import EMPTY, slid


class Moment:
    """A standing, the deed that made it, the moment ahead of that, and how many deeds there were in all."""

    def __init__(self, standing, deed, before):
        self.signs = standing
        self.deed = deed
        self.before = before
        self.many = 0 if before is None else before.many + 1


class Bench:
    """A standing of a board that is led by hand."""

    def __init__(self, board, standing):
        check_board(board)
        check_standing(standing, board.size)
        self._board = board
        self.state = Moment(standing, None, None)

    @property
    def board(self):
        """The board."""
        return self._board

    @property
    def standing(self):
        """The standing as it is."""
        return self.state.signs

    @property
    def deeds(self):
        """The tuple of all changes that have not been taken back."""
        return _deeds_up_to(self.state)

    @property
    def changes(self):
        """How many changes have not been taken back."""
        return self.state.many

    def press(self, name, number):
        """Presses a button so often, backwards below 0."""
        check_known(self._board, name)
        if not is_integer(number, -MOST_TIMES, MOST_TIMES) or number == 0:
            raise InvalidNumber(number)
        self.state = _behind(self._board, self.state, ("press", name, number))

    def do(self, row):
        """Does all presses of a row, as one change."""
        check_row(self._board, row)
        self.state = _behind(self._board, self.state, ("do", row))

    def slide(self, place, goal):
        """Slides what stands on a place to another one."""
        check_place(place, self._board.size)
        check_place(goal, self._board.size)
        later = _behind(self._board, self.state, ("slide", place, goal))
        if later is None:
            raise NoSlide()
        self.state = later

    def play(self, deeds):
        """Does all of these deeds, each one as a change, or none of them."""
        if not isinstance(deeds, tuple):
            raise InvalidDeeds(None)
        state = self.state
        for index, deed in enumerate(deeds):
            later = _behind(self._board, state, deed)
            if later is None:
                raise InvalidDeeds(index)
            state = later
        self.state = state

    def undo(self):
        """Takes back the last change that has not been taken back."""
        if self.state.before is None:
            raise NothingToUndo()
        self.state = self.state.before

    def trial(self):
        """For a `with` statement: behind its rows the bench is as it was ahead of them."""
        return Trial(self, False)

    def tried(self, action):
        """What an action returns that is called with the bench within a trial."""
        with self.trial() as bench:
            return action(bench)

    def __eq__(self, other):
        # Not left to the other side, which may say that it equals anything.
        return self is other


def _deeds_up_to(state):
    found = []
    while state.before is not None:
        found.append(state.deed)
        state = state.before
    return tuple(found[::-1])


def _row_in(board, deed):
    """The row of presses of a deed, None if it has none."""
    word, *told = deed
    if word == "press" and is_press_of(board.names, tuple(told)):
        return (tuple(told),)
    if word == "do" and len(told) == 1 and is_row_of(board.names, told[0]):
        return told[0]
    return None


def _is_slide(board, standing, deed):
    """Whether it is a slide that can be done there."""
    if deed[0] != "slide" or len(deed) != 3:
        return False
    if not all([is_integer(place, 0, board.size - 1) for place in deed[1:]]):
        return False
    _, place, goal = deed
    is_tied = (place, goal) in board.ties or (goal, place) in board.ties
    return is_tied and standing[goal] == EMPTY and standing[place] != EMPTY


def _behind(board, state, deed):
    """The moment behind a deed, None if it is no deed or cannot be done there."""
    if not isinstance(deed, tuple) or len(deed) == 0 or not isinstance(deed[0], str):
        return None
    standing = state.signs
    row = _row_in(board, deed)
    if row is not None:
        return Moment(things_of(standing, led_back(turn_of_row(board, row))), deed, state)
    if _is_slide(board, standing, deed):
        return Moment(slid(standing, deed[1], deed[2]), deed, state)
    return None
