"""Standings: which ones come from which by the turns of a board, and by how few presses."""

from seatbuttons.boards import check_board
from seatbuttons.checks import check_any_standing, check_standing, check_turn
from seatbuttons.errors import OtherSize
from seatbuttons.limits import MOST_REACHED
from seatbuttons.searching import few_steps_found, fewest_to, search, single_presses
from seatbuttons.towers import count_turns, whole_tower
from seatbuttons.unchecked import led_back, things_of


def turned(standing, turn):
    """The standing that a turn makes of a standing."""
    check_any_standing(standing)
    check_turn(turn)
    if len(standing) != len(turn):
        raise OtherSize()
    return things_of(standing, led_back(turn))


def search_from(standing, presses, most):
    """All standings that are reached by these presses, told with their turns; TooMany if they are more."""
    backs = [(press, led_back(turn)) for press, turn in presses]
    return search(standing, lambda here: [(press, things_of(here, back)) for press, back in backs], most)


def _search_by_singles(board, standing):
    return search_from(standing, single_presses(board), MOST_REACHED)


def _reached_from(board, standing):
    check_board(board)
    check_standing(standing, board.size)
    # Presses the other way lead nowhere else, they only lead there sooner.
    return search_from(standing, list(board.buttons), MOST_REACHED)


def count_reached(board, standing):
    """How many standings are reached from a standing."""
    return len(_reached_from(board, standing))


def all_reached(board, standing):
    """The ascending tuple of the standings that are reached from a standing."""
    return tuple(sorted(_reached_from(board, standing)))


def least(board, standing):
    """The least standing that is reached from a standing."""
    return min(_reached_from(board, standing))


def keepers(board, standing):
    """How many turns of the board make a standing of itself."""
    reached = _reached_from(board, standing)
    return count_turns(whole_tower(board).levels) // len(reached)


def _check_two_standings(board, one, other):
    check_board(board)
    check_standing(one, board.size)
    check_standing(other, board.size)


def goes(board, one, other):
    """Whether the other standing is reached from the one."""
    _check_two_standings(board, one, other)
    return other in _reached_from(board, one)


def row_between(board, one, other):
    """Any row of fewest single presses that makes the other standing of the one, None if none does."""
    _check_two_standings(board, one, other)
    return few_steps_found(_search_by_singles(board, one), other)


def presses_between(board, one, other):
    """How few single presses make the other standing of the one, None if none do."""
    _check_two_standings(board, one, other)
    return fewest_to(_search_by_singles(board, one), other)


def farthest_standings(board, one):
    """The ascending tuple of the standings that are reached from the one by the most presses."""
    check_board(board)
    check_standing(one, board.size)
    found = _search_by_singles(board, one)
    most = max([told[2] for told in found.values()])
    return tuple(sorted([standing for standing, told in found.items() if told[2] == most]))
