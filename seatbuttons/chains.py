"""The group of a board by a chain of places: its order, which turns it has, and how they are made."""

from seatbuttons.boards import check_board, check_board_and_turn, check_two_boards
from seatbuttons.checks import are_unlike_places, check_places, is_integer, is_pair
from seatbuttons.errors import InvalidNumber, TooMany
from seatbuttons.limits import MOST_TURNS
from seatbuttons.makings import check_making, is_making, row_of_steps, turns_of_steps
from seatbuttons.towers import count_turns, tower_of, tower_with, whole_tower
from seatbuttons.unchecked import one_then, product_of, renamed_by, staying


def order(board):
    """How many turns the group of a board has."""
    check_board(board)
    return count_turns(whole_tower(board).levels)


def base(board):
    """The base of a board."""
    check_board(board)
    return tuple([level.place for level in whole_tower(board).levels])


def spans(board):
    """The spans of a board, one for each place of the base."""
    check_board(board)
    return tuple([tuple(sorted(list(level.leading))) for level in whole_tower(board).levels])


def inside(board, turn):
    """Whether a turn is one of the board's."""
    check_board_and_turn(board, turn)
    return whole_tower(board).comes_down(turn)


def agreeing(board, turn):
    """On how many places of the base, from the first one on, a turn of the board can be as this one."""
    check_board_and_turn(board, turn)
    return len(whole_tower(board).way_down(turn)[0])


def nearest(board, turn):
    """Any turn of the board that is as this one on so many places of the base."""
    check_board_and_turn(board, turn)
    tower = whole_tower(board)
    found = staying(board.size)
    for step in tower.way_down(turn)[0]:
        found = one_then(tower.turns[step], found)
    return found


def making(board, turn):
    """Any making that makes a turn of the board."""
    tower = tower_with(board, turn)
    steps = [*tower.steps, None]
    for step in tower.way_down(turn)[0]:
        steps.append((step, len(steps) - 1))
    return tuple(steps)


def made(board, steps):
    """The turn that a making makes."""
    check_board(board)
    check_making(board, steps)
    return turns_of_steps(board, steps)[-1]


def row_made(board, steps):
    """The row of presses that a making tells."""
    check_board(board)
    check_making(board, steps)
    return row_of_steps(steps)


def member_at(board, number):
    """The turn of the board with this number, if all are numbered ascending."""
    check_board(board)
    tower = whole_tower(board)
    if not is_integer(number, 0, count_turns(tower.levels) - 1):
        raise InvalidNumber(number)
    found = staying(board.size)
    for index, level in enumerate(tower.levels):
        later = count_turns(tower.levels[index + 1:])
        # Up to here as `found`, the turns of the board lead this place to where `found` leads these.
        goals = sorted([(found[goal], step) for goal, step in level.leading.items()])
        found = one_then(tower.turns[goals[number // later][1]], found)
        number = number % later
    return found


def number_of(board, turn):
    """The number of a turn of the board, if all are numbered ascending."""
    tower = tower_with(board, turn)
    found = staying(board.size)
    number = 0
    for index, level in enumerate(tower.levels):
        goals = sorted([(found[goal], step) for goal, step in level.leading.items()])
        at = [goal for goal, _ in goals].index(turn[level.place])
        number = number + at * count_turns(tower.levels[index + 1:])
        found = one_then(tower.turns[goals[at][1]], found)
    return number


def keeping(board, places):
    """How many turns of the board leave each of these places where it is."""
    check_board(board)
    check_places(places, board.size)
    others = [place for place in range(board.size) if place not in places]
    levels = tower_of(board, (*places, *others)).levels
    return count_turns([level for level in levels if level.place not in places])


def _count_lots(board, places):
    """Onto how many lots of places these are led."""
    lots = [tuple(sorted(list(places)))]
    met = {lots[0]}
    at = 0
    while at < len(lots):
        for _, turn in board.buttons:
            lot = tuple(sorted([turn[place] for place in lots[at]]))
            if lot not in met:
                met.add(lot)
                lots.append(lot)
        if len(lots) > MOST_TURNS:
            raise TooMany(MOST_TURNS)
        at = at + 1
    return len(lots)


def holding(board, places):
    """How many turns of the board lead this lot of places onto itself."""
    check_board(board)
    check_places(places, board.size)
    return order(board) // _count_lots(board, places)


def within(one, other):
    """Whether each turn of the one board is one of the other board."""
    return first_outside(one, other) is None


def same_group(one, other):
    """Whether two boards have the same turns."""
    return within(one, other) and within(other, one)


def first_outside(one, other):
    """The first name of a button of the one whose turn is none of the other, None if there is none."""
    check_two_boards(one, other)
    tower = whole_tower(other)
    for name, turn in one.buttons:
        if not tower.comes_down(turn):
            return name
    return None


def is_normal(one, other):
    """Whether the turns of the one are turns of it too if a button of the other renames the places."""
    check_two_boards(one, other)
    tower = whole_tower(one)
    renamed = [renamed_by(by, turn) for _, by in other.buttons for _, turn in one.buttons]
    return all([tower.comes_down(turn) for turn in renamed])


def chain(board):
    """Any closed chain for the board whose line is the base."""
    check_board(board)
    tower = whole_tower(board)
    levels = []
    for level in tower.levels:
        pairs = [(goal, None if goal == level.place else step) for goal, step in level.leading.items()]
        levels.append(tuple(sorted(pairs)))
    return tuple(tower.steps), tuple([level.place for level in tower.levels]), tuple(levels)


def _is_leading(given, place, goal, turns, ahead):
    """Whether it is an index of a turn that leads the place to the goal, and keeps those ahead."""
    if goal == place:
        return given is None
    if not is_integer(given, 0, len(turns) - 1):
        return False
    return turns[given][place] == goal and all([turns[given][kept] == kept for kept in ahead])


def _is_level(given, place, turns, ahead):
    """Whether it is a level of a chain that has this place in its line, behind those ahead."""
    if not isinstance(given, tuple):
        return False
    goals = [-1]
    for pair in given:
        if not is_pair(pair) or not is_integer(pair[0], goals[-1] + 1, len(turns[0]) - 1):
            return False
        if not _is_leading(pair[1], place, pair[0], turns, ahead):
            return False
        goals.append(pair[0])
    return place in goals


def is_chain(board, value):
    """Whether any value is a chain for the board."""
    check_board(board)
    if not isinstance(value, tuple) or len(value) != 3:
        return False
    steps, line, levels = value
    if not isinstance(line, tuple) or not are_unlike_places(line, board.size):
        return False
    if not isinstance(levels, tuple) or len(levels) != len(line):
        return False
    if not is_making(board, steps):
        return False
    turns = turns_of_steps(board, steps)
    return all([_is_level(level, line[at], turns, line[:at]) for at, level in enumerate(levels)])


def is_closed(board, value):
    """Whether any value is a closed chain for the board."""
    # All turns of a chain are the board's, and no two of their products, one from each level, are
    # the same. So just if these are as many as the order, all turns of the board come down.
    return is_chain(board, value) and product_of([len(level) for level in value[2]]) == order(board)
