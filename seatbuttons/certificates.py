"""Claims for the checker, each with a paper that it accepts."""

from seatbuttons.blocks import is_block
from seatbuttons.boards import check_board, check_board_and_turn, check_two_boards
from seatbuttons.chains import chain, first_outside, inside, making, order
from seatbuttons.checks import check_standing, is_integer
from seatbuttons.errors import InvalidPlaces
from seatbuttons.joining import bars, make
from seatbuttons.layering import layer_of_each, layers_up_to
from seatbuttons.likeness import renaming
from seatbuttons.limits import MOST_SHOWN
from seatbuttons.places import row_to, search_places
from seatbuttons.riddles import goals
from seatbuttons.searching import few_steps_found, single_presses, steps_found
from seatbuttons.standings import search_from
from seatbuttons.towers import tower_with
from seatbuttons.unchecked import button_turns, goes_with, reach_of
from seatbuttons.yards import steps_between


def certify_inside(board, turn):
    """Whether a turn is one of a board's."""
    if inside(board, turn):
        return ("inside", board.text, turn), making(board, turn)
    return ("outside", board.text, turn), chain(board)


def certify_order(board):
    """The order of a board."""
    many = order(board)
    return ("order", board.text, many), chain(board)


def certify_led(board, place, goal):
    """Whether a place is led to a goal."""
    row = row_to(board, place, goal)
    if row is None:
        return ("not led", board.text, place, goal), reach_of(place, button_turns(board))
    return ("led", board.text, place, goal), row


def _check_ascending(given, size):
    if not isinstance(given, tuple) or len(given) == 0:
        raise InvalidPlaces(None)
    least = 0
    for index, place in enumerate(given):
        if not is_integer(place, least, size - 1):
            raise InvalidPlaces(index)
        least = place + 1


def _against_block(board, places):
    """What shows that places are no block: two that have unlike reaches, or a row that parts them."""
    first = places[0]
    reach = reach_of(first, button_turns(board))
    for place in places:
        if place not in reach:
            return first, place
    # If all turns that lead the first one to one of them led all of them there, they would be a block.
    for place in places[1:]:
        found = search_places(board, (first, place))
        for kept, parted in found:
            if kept in places and parted not in places:
                return steps_found(found, (kept, parted))
    return None


def certify_block(board, places):
    """Whether places are a block."""
    check_board(board)
    _check_ascending(places, board.size)
    if is_block(board, places):
        return ("block", board.text, places), ()
    return ("no block", board.text, places), _against_block(board, places)


def certify_within(one, other):
    """Whether each turn of the one board is one of the other board."""
    name = first_outside(one, other)
    if name is None:
        return ("within", one.text, other.text), tuple([making(other, turn) for turn in button_turns(one)])
    return ("not within", one.text, other.text), (name, chain(other))


def certify_alike(one, other):
    """That two boards are alike; None if they are not."""
    found = renaming(one, other)
    return None if found is None else (("alike", one.text, other.text), found)


def certify_together(board, turn):
    """Whether a turn goes together with a board."""
    check_board_and_turn(board, turn)
    for name, other in board.buttons:
        if not goes_with(turn, [other]):
            return ("not together", board.text, turn), name
    return ("together", board.text, turn), ()


def _few_reached(board, standing):
    """The search for all standings that are reached from one, if they may be shown."""
    return search_from(standing, single_presses(board), MOST_SHOWN)


def certify_goes(board, one, other):
    """Whether the other standing is reached from the one."""
    check_board(board)
    check_standing(one, board.size)
    check_standing(other, board.size)
    found = _few_reached(board, one)
    row = few_steps_found(found, other)
    if row is None:
        return ("never", board.text, one, other), tuple(sorted(found))
    return ("goes", board.text, one, other), row


def certify_reached(board, standing):
    """How many standings are reached from a standing."""
    check_board(board)
    check_standing(standing, board.size)
    # In the order in which they were found each one comes of one before it.
    found = tuple(_few_reached(board, standing))
    return ("reached", board.text, standing, len(found)), found


def certify_steps(board, one, other):
    """That the other standing is come to from the one; None if it is not."""
    steps = steps_between(board, one, other)
    return None if steps is None else (("steps", board.text, one, other), steps)


def _layering(board):
    """The layering of a board, if its turns may be shown."""
    # There are no more layers than turns.
    return tuple([tuple(sorted(layer)) for layer in layers_up_to(board, MOST_SHOWN, MOST_SHOWN)])


def certify_fewest(board, turn):
    """The fewest presses of a turn of a board."""
    # There is none for a turn that is none of the board's.
    tower_with(board, turn)
    layers = _layering(board)
    return ("fewest", board.text, turn, layer_of_each(layers)[turn]), layers


def certify_spread(board):
    """The spread of a board."""
    check_board(board)
    layers = _layering(board)
    return ("spread", board.text, tuple([len(layer) for layer in layers])), layers


def certify_ring(one, other):
    """Whether two turns of these kinds make one ring."""
    by = bars(one, other)
    if by is None:
        return ("ring", one, other), make(one, other)
    return ("no ring", one, other), by


def certify_sure(riddle, place):
    """Where the hidden button surely leads a place; None if that is not sure."""
    some = goals(riddle, place)
    if len(some) > 1:
        return None
    return ("sure", riddle.board.text, riddle.name, riddle.looks, place, some[0]), ()
