"""Rows of swaps: of any two places, of a hub with any other place, and along the ties of a board."""

from math import factorial

from seatbuttons.boards import check_board_and_turn
from seatbuttons.checks import check_place, check_turn
from seatbuttons.errors import TooMany
from seatbuttons.searching import search, steps_found
from seatbuttons.unchecked import along, one_then, product_of, rings_in, staying

MOST_TIED = 7


def fewest_swaps(turn):
    """The least number of swaps of any two places that make a turn."""
    check_turn(turn)
    # A swap parts one ring in two, or puts two of them together.
    return len(turn) - len(rings_in(turn))


def swap_rows(turn):
    """In how many tuples of so few swaps a turn can be made."""
    check_turn(turn)
    lengths = [len(ring) for ring in rings_in(turn)]
    # Denes: a ring of k places can be parted by k - 1 swaps in k to the power of k - 2 ways.
    ways = product_of([product_of([length] * (length - 2)) for length in lengths])
    # The swaps of unlike rings may stand in any order beside one another.
    within = product_of([factorial(length - 1) for length in lengths])
    return ways * factorial(len(turn) - len(lengths)) // within


def hub_swaps(turn, hub):
    """The least number of swaps of the hub with any other place that make a turn."""
    check_turn(turn)
    check_place(hub, len(turn))
    many = 0
    for ring in rings_in(turn):
        if hub in ring:
            many = many + len(ring) - 1
        elif len(ring) > 1:
            # One swap more brings the hub into the ring.
            many = many + len(ring) + 1
    return many


def tied_swaps(board, turn):
    """Any shortest tuple of ties of a board whose swaps make the turn, None if there is none."""
    check_board_and_turn(board, turn)
    if board.size > MOST_TIED:
        raise TooMany(MOST_TIED)
    swaps = [(tie, along(board.size, [tie], 1)) for tie in board.ties]
    found = search(
        staying(board.size),
        lambda here: [(tie, one_then(here, swap)) for tie, swap in swaps],
        factorial(MOST_TIED),
    )
    return steps_found(found, turn)
