"""Which reaches are alike, which turns go together with a board, and which boards are alike."""

from itertools import permutations
from math import factorial

from seatbuttons.boards import check_board, check_board_and_turn, check_board_place_and_goal, check_two_boards
from seatbuttons.errors import TooMany
from seatbuttons.matching import turn_onto
from seatbuttons.unchecked import button_turns, goes_with, kind_in, one_then, reaches_of

MOST_RENAMED = 5


def _likes(board, place, goal):
    """The dict of the likeness that leads the place to the goal, None if there is none."""
    likes = {place: goal}
    waiting = [place]
    while len(waiting) > 0:
        here = waiting.pop()
        for _, turn in board.buttons:
            there, like = turn[here], turn[likes[here]]
            if there not in likes:
                likes[there] = like
                waiting.append(there)
            elif likes[there] != like:
                return None
    # A reach may be wound about a shorter one several times.
    return likes if len(set(list(likes.values()))) == len(likes) else None


def likeness(board, place, goal):
    """The pairs (place, like) of the likeness that leads the place to the goal, None if there is none."""
    check_board_place_and_goal(board, place, goal)
    likes = _likes(board, place, goal)
    return None if likes is None else tuple(sorted(likes.items()))


def goes_together(board, turn):
    """Whether a turn goes together with a board."""
    check_board_and_turn(board, turn)
    return goes_with(turn, button_turns(board))


def _count_likes(board, place, goals):
    """How many of these goals a likeness leads the place to."""
    return len([goal for goal in goals if _likes(board, place, goal) is not None])


def count_together(board):
    """How many turns go together with a board."""
    check_board(board)
    reaches = list(reaches_of(board.size, button_turns(board)))
    found = 1
    while len(reaches) > 0:
        first = reaches[0]
        like_first = [reach for reach in reaches if _count_likes(board, first[0], reach) > 0]
        # They are led onto one another in any order, each one in as many ways as the first one onto itself.
        found = found * factorial(len(like_first))
        for _ in like_first:
            found = found * _count_likes(board, first[0], first)
        reaches = [reach for reach in reaches if reach not in like_first]
    return found


def together_through(board, place, goal):
    """Any turn that goes together with a board and leads the place to the goal, None if there is none."""
    check_board_place_and_goal(board, place, goal)
    likes = _likes(board, place, goal)
    if likes is None:
        return None
    goals = list(range(board.size))
    # Two reaches change their places with one another.
    for here, like in likes.items():
        goals[like] = here
    for here, like in likes.items():
        goals[here] = like
    return tuple(goals)


def _kinds_of_pairs(turns):
    """The kinds of the turns and of each two of them, one then the other: the same for renamed ones."""
    made = [*turns, *[one_then(one, other) for one in turns for other in turns]]
    return [kind_in(turn) for turn in made]


def _renaming(one, other):
    turns = button_turns(one)
    kinds = _kinds_of_pairs(turns)
    buttons = list(other.buttons)
    tried = set()
    for order in permutations(buttons):
        goals = tuple([turn for _, turn in order])
        if goals not in tried and _kinds_of_pairs(goals) == kinds:
            tried.add(goals)
            found = turn_onto(one.size, turns, one.ties, goals, other.ties)
            if found is not None:
                return found, tuple([name for name, _ in order])
    return None


def renaming(one, other):
    """Any renaming of the one board into the other one, None if there is none."""
    check_two_boards(one, other)
    if len(one.buttons) > MOST_RENAMED or len(other.buttons) > MOST_RENAMED:
        raise TooMany(MOST_RENAMED)
    return None if len(one.buttons) != len(other.buttons) else _renaming(one, other)


def alike(one, other):
    """Whether there is a renaming of the one board into the other one."""
    return renaming(one, other) is not None
