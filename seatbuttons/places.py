"""Where the turns of a board lead places, and tuples of places, and by how few presses."""

from itertools import permutations

from seatbuttons.boards import check_board, check_board_place_and_goal
from seatbuttons.checks import MOST_LED, check_few_places, check_goals, check_number
from seatbuttons.searching import count_lots, few_steps_found, fewest_to, search, single_presses, steps_found
from seatbuttons.towers import whole_tower
from seatbuttons.unchecked import button_turns, one_then, reaches_of


def reaches(board):
    """The ascending tuple of all reaches of a board."""
    check_board(board)
    return reaches_of(board.size, button_turns(board))


def search_places(board, places):
    """All tuples of places to which the turns of a board lead these, place by place."""
    presses = single_presses(board)
    # There are no more tuples of one to three places.
    most = board.size ** 3
    return search(places, lambda here: [(press, one_then(here, turn)) for press, turn in presses], most)


def distance(board, place, goal):
    """The least number of single presses that lead the place to the goal, None if none do."""
    check_board_place_and_goal(board, place, goal)
    return fewest_to(search_places(board, (place,)), (goal,))


def row_to(board, place, goal):
    """Any row of so few single presses, None if none do."""
    check_board_place_and_goal(board, place, goal)
    return steps_found(search_places(board, (place,)), (goal,))


def _check_places_and_goals(board, places, goals):
    check_board(board)
    check_few_places(places, board.size)
    check_goals(goals, board.size, len(places))


def distance_leading(board, places, goals):
    """The least number of single presses that lead each place to its goal, None if none do."""
    _check_places_and_goals(board, places, goals)
    return fewest_to(search_places(board, places), goals)


def row_leading(board, places, goals):
    """Any row of so few single presses, None if none do."""
    _check_places_and_goals(board, places, goals)
    return few_steps_found(search_places(board, places), goals)


def count_reaches(board, number):
    """How many lots of tuples of so many unlike places there are, each led to all others of its lot."""
    check_board(board)
    check_number(number, 1, MOST_LED)
    tuples = list(permutations(range(board.size), number))
    return count_lots(tuples, lambda places: search_places(board, places))


def fold(board):
    """The greatest number of places that turns of the board lead to any others, in any order."""
    check_board(board)
    spans = {level.place: len(level.leading) for level in whole_tower(board).levels}
    many = 0
    # While those ahead stay where they are, the next place has to be led to all others and itself.
    while many < board.size and spans.get(many, 1) == board.size - many:
        many = many + 1
    return many
