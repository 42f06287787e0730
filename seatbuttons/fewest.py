"""By how few presses the turns of a board are made, by which ones, and in how many ways."""

from seatbuttons.boards import check_board, check_board_and_turn
from seatbuttons.checks import check_number, check_turn
from seatbuttons.errors import InvalidNames
from seatbuttons.layering import layer_of_each, layers_up_to
from seatbuttons.limits import MOST_TIMES, MOST_TURNS
from seatbuttons.searching import single_presses
from seatbuttons.towers import check_few_turns, tower_with, whole_tower
from seatbuttons.unchecked import button_turns, led_back, one_then, staying

MOST_COUNTED = 40
MOST_NEAR = 12


def _check_few_with(board, turn):
    """Raises an error if the turn is none of the board's, or these are more than are gone through."""
    check_few_turns(tower_with(board, turn))


def _all_layers(board):
    """The list of all layers of a board of which few turns are known."""
    # There are no more layers than turns.
    return layers_up_to(board, MOST_TURNS, MOST_TURNS)


def _layers_of(board):
    check_board(board)
    check_few_turns(whole_tower(board))
    return _all_layers(board)


def fewest(board, turn):
    """The fewest presses of a turn of a board."""
    _check_few_with(board, turn)
    return layer_of_each(_all_layers(board))[turn]


def _put_together(row):
    """The row with neighbouring presses of one button put together: in a shortest one they have one sign."""
    kept = []
    for name, number in row:
        if len(kept) > 0 and kept[-1][0] == name:
            number = number + kept.pop()[1]
        kept.append((name, number))
    return tuple(kept)


def first_row(board, turn):
    """The first row of the fewest presses of a turn of a board."""
    _check_few_with(board, turn)
    presses = [(press, led_back(pressed)) for press, pressed in single_presses(board)]
    many = layer_of_each(_all_layers(board))
    row = []
    left = turn
    while many[left] > 0:
        rests = [(press, one_then(back, left)) for press, back in presses]
        # What is left behind the first press takes as many presses as the turn back from it.
        first, left = [(press, rest) for press, rest in rests if many[rest] < many[left]][0]
        row.append(first)
    return _put_together(row)


def spread(board):
    """How many turns the layers of a board have."""
    return tuple([len(layer) for layer in _layers_of(board)])


def farthest(board):
    """The ascending tuple of the turns of a board that take the most presses."""
    return tuple(sorted(_layers_of(board)[-1]))


def layer(board, number):
    """The ascending tuple of the turns of a board with so many fewest presses."""
    check_board(board)
    check_number(number, 0, MOST_TIMES)
    layers = _layers_of(board)
    return tuple(sorted(layers[number])) if number < len(layers) else ()


def _check_names(board, given):
    if not isinstance(given, tuple):
        raise InvalidNames(None)
    for index, name in enumerate(given):
        if not isinstance(name, str) or name not in board.names or name in given[:index]:
            raise InvalidNames(index)


def _all_behind(some, presses, met):
    """The list of these turns and all that come of them by presses, but for those met; these are met then."""
    found = []
    waiting = list(some)
    while len(waiting) > 0:
        here = waiting.pop()
        if here not in met:
            met[here] = True
            found.append(here)
            waiting.extend([one_then(here, press) for press in presses])
    return found


def told_cost(board, turn, names):
    """The least number of presses of these buttons among single presses that make a turn of a board."""
    check_board(board)
    check_turn(turn)
    _check_names(board, names)
    _check_few_with(board, turn)
    presses = single_presses(board)
    free = [pressed for press, pressed in presses if press[0] not in names]
    told = [pressed for press, pressed in presses if press[0] in names]
    met = {}
    cost = 0
    latest = _all_behind([staying(board.size)], free, met)
    while turn not in met:
        cost = cost + 1
        latest = _all_behind([one_then(here, press) for here in latest for press in told], free, met)
    return cost


def _with_one_more(counts, goals):
    """How many tuples with one press more make each turn, `goals` being what the presses make of it."""
    return [sum([counts[goal] for goal in row]) for row in goals]


def counted_rows(board, turn, number):
    """How many tuples of so many single presses make a turn of a board."""
    check_board(board)
    check_turn(turn)
    check_number(number, 0, MOST_COUNTED)
    _check_few_with(board, turn)
    turns = [here for some in _all_layers(board) for here in some]
    at = {here: index for index, here in enumerate(turns)}
    presses = [pressed for forth in button_turns(board) for pressed in (forth, led_back(forth))]
    # With each press there is the one back, so it is all one which ones lead here and which away.
    goals = [[at[one_then(here, press)] for press in presses] for here in turns]
    counts = [1] + [0] * (len(turns) - 1)
    for _ in range(number // 2):
        counts = _with_one_more(counts, goals)
    others = counts if number % 2 == 0 else _with_one_more(counts, goals)
    # A tuple that makes the turn is one back from some turn, then one that makes what is left.
    return sum([many * others[at[one_then(here, turn)]] for here, many in zip(turns, counts)])


def near(board, turn, most):
    """The fewest presses of a turn if they are at most so many, None otherwise."""
    check_board(board)
    check_turn(turn)
    check_number(most, 0, MOST_NEAR)
    check_board_and_turn(board, turn)
    many = layer_of_each(layers_up_to(board, (most + 1) // 2, MOST_TURNS))
    # From both ends: a tuple back from some turn, then one that makes what is left.
    halves = [(one_then(here, turn), few) for here, few in many.items()]
    found = [few + many[rest] for rest, few in halves if rest in many]
    return min(found) if len(found) > 0 and min(found) <= most else None
