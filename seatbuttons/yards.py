"""Yards: what presses and slides make of standings with one empty place."""

from math import factorial

from seatbuttons.boards import check_board, check_board_and_turn
from seatbuttons.checks import check_place, check_standing_with_room, is_integer, is_pair
from seatbuttons.errors import InvalidSteps
from seatbuttons.limits import MOST_PRESSES, MOST_REACHED
from seatbuttons.searching import few_steps_found, fewest_to, search, single_presses, steps_found
from seatbuttons.towers import Tower, count_turns
from seatbuttons.unchecked import along, is_even_turn, led_back, one_then, product_of, reaches_of, staying, things_of

SLIDE = ">"
EMPTY = "-"


def _tied(board):
    """For each place the list of the places that are tied to it."""
    tied = [[] for _ in range(board.size)]
    for place, goal in board.ties:
        tied[place].append(goal)
        tied[goal].append(place)
    return tied


def _places_behind(empty, presses, tied):
    """The pairs of a step that can be done with this place empty, and the place that is then empty."""
    steps = [(press, turn[empty]) for press, turn in presses]
    return steps + [((SLIDE, place), place) for place in tied[empty]]


def _search_empty(board, home):
    """All places that can be empty behind steps that begin with home empty."""
    presses, tied = single_presses(board), _tied(board)
    return search(home, lambda empty: _places_behind(empty, presses, tied), board.size)


def slid(standing, place, goal):
    """The standing behind a slide from a place to an empty one."""
    signs = list(standing)
    signs[goal] = signs[place]
    signs[place] = EMPTY
    return "".join(signs)


def _standings_behind(standing, backs, tied):
    """The pairs of a step that can be done there, and the standing that it makes."""
    empty = standing.index(EMPTY)
    steps = [(press, things_of(standing, back)) for press, back in backs]
    return steps + [((SLIDE, place), slid(standing, place, empty)) for place in tied[empty]]


def _search_from(board, standing):
    """All standings that are come to from a standing."""
    backs, tied = [(press, led_back(turn)) for press, turn in single_presses(board)], _tied(board)
    return search(standing, lambda here: _standings_behind(here, backs, tied), MOST_REACHED)


def _check_home(board, home):
    check_board(board)
    check_place(home, board.size)


def empties(board, home):
    """The ascending tuple of the places that can be empty behind steps that begin with home empty."""
    _check_home(board, home)
    return tuple(sorted(_search_empty(board, home)))


def steps_to(board, home, goal):
    """Any shortest tuple of steps from home empty to the goal empty, None if there is none."""
    _check_home(board, home)
    check_place(goal, board.size)
    return steps_found(_search_empty(board, home), goal)


def _turn_of_step(board, step, empty):
    """The turn that a step makes of all places if this one is empty."""
    word, told = step
    if word == SLIDE:
        return along(board.size, [(told, empty)], 1)
    return board.turn(word) if told == 1 else led_back(board.turn(word))


def _round_trips(board, home):
    """The turns of all steps, each one between tuples of steps that lead from home to it and back."""
    presses, tied = single_presses(board), _tied(board)
    there = {}
    for place, (before, step, many) in _search_empty(board, home).items():
        there[place] = staying(board.size)
        if many > 0:
            there[place] = one_then(there[before], _turn_of_step(board, step, before))
    turns = []
    for place, way in there.items():
        for step, goal in _places_behind(place, presses, tied):
            gone = one_then(way, _turn_of_step(board, step, place))
            turns.append(one_then(gone, led_back(there[goal])))
    return turns


def _homing_group(board, home):
    """The tower of a homing group, and a list of turns that make the group."""
    tower = Tower(staying(board.size))
    makers = []
    for turn in _round_trips(board, home):
        # No making is asked for, so these turns need no names.
        if tower.take(None, turn):
            makers.append(turn)
    return tower, makers


def homing_turns(board, home):
    """Any tuple of turns, none of them needless, that make just the turns of the homing group."""
    _check_home(board, home)
    makers = _homing_group(board, home)[1]
    # Nothing comes of no turns at all; the turn with which all stay is in each group.
    return (staying(board.size),) if len(makers) == 0 else tuple(makers)


def homing_order(board, home):
    """How many turns the homing group has."""
    _check_home(board, home)
    return count_turns(_homing_group(board, home)[0].levels)


def is_homing(board, home, turn):
    """Whether a turn is one of the homing group."""
    _check_home(board, home)
    check_board_and_turn(board, turn)
    return _homing_group(board, home)[0].comes_down(turn)


def homing_kind(board, home):
    """Which of the turns that keep home and each reach are in the homing group: all, the even ones, others."""
    _check_home(board, home)
    tower, makers = _homing_group(board, home)
    many = count_turns(tower.levels)
    most = product_of([factorial(len(reach)) for reach in reaches_of(board.size, makers)])
    if many == most:
        return "all"
    # The even ones are just half of them.
    if many * 2 == most and all([is_even_turn(turn) for turn in makers]):
        return "even"
    return "other"


def _behind(board, tied, standing, step):
    """The standing behind a step, None if it is no step or cannot be done there."""
    if not is_pair(step) or not isinstance(step[0], str):
        return None
    word, told = step
    empty = standing.index(EMPTY)
    if word == SLIDE and is_integer(told, 0, board.size - 1) and told in tied[empty]:
        return slid(standing, told, empty)
    if word in board.names and is_integer(told, -1, 1) and told != 0:
        return things_of(standing, led_back(_turn_of_step(board, step, empty)))
    return None


def run_steps(board, standing, steps):
    """The standing behind a tuple of steps."""
    check_board(board)
    check_standing_with_room(standing, board.size)
    if not isinstance(steps, tuple):
        raise InvalidSteps(None)
    tied = _tied(board)
    for index, step in enumerate(steps):
        later = _behind(board, tied, standing, step)
        if index >= MOST_PRESSES or later is None:
            raise InvalidSteps(index)
        standing = later
    return standing


def _check_two_standings(board, one, other):
    check_board(board)
    check_standing_with_room(one, board.size)
    check_standing_with_room(other, board.size)


def comes_to(board, one, other):
    """Whether the other standing is come to from the one."""
    _check_two_standings(board, one, other)
    return other in _search_from(board, one)


def count_come(board, standing):
    """How many standings are come to from a standing."""
    check_board(board)
    check_standing_with_room(standing, board.size)
    return len(_search_from(board, standing))


def steps_between(board, one, other):
    """Any shortest tuple of steps that leads from the one standing to the other, None if there is none."""
    _check_two_standings(board, one, other)
    return few_steps_found(_search_from(board, one), other)


def fewest_steps(board, one, other):
    """How many steps lead from the one standing to the other at least, None if none do."""
    _check_two_standings(board, one, other)
    return fewest_to(_search_from(board, one), other)
