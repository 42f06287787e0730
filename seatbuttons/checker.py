"""A small checker of claims, that believes nothing but papers.

Claims and papers may be anything: each part is asked for its kind before it is compared with others.
"""

from seatbuttons.blocks import is_block
from seatbuttons.boards import board_in, placed
from seatbuttons.chains import inside, is_closed
from seatbuttons.checks import are_ascending_places, is_integer, is_kind, is_pair, is_standing, is_turn
from seatbuttons.errors import InvalidLooks, InvalidName, InvalidSteps
from seatbuttons.joining import bars
from seatbuttons.layering import layer_of_each
from seatbuttons.limits import MOST_SHOWN
from seatbuttons.makings import is_making, turns_of_steps
from seatbuttons.presses import is_row_of, turn_of_row
from seatbuttons.riddles import Riddle, count_fits, goals
from seatbuttons.searching import single_presses
from seatbuttons.unchecked import button_turns, goes_with, kind_in, led_back, one_then, product_of, reach_of, rings_in
from seatbuttons.unchecked import staying, things_of
from seatbuttons.yards import EMPTY, run_steps

# What stands behind the word of a claim: boards, of as many places, are told by their texts, and
# turns, places and standings are theirs. `room` is a standing with one empty place, `value` anything.
PARTS = {
    "inside": ("board", "turn"),
    "outside": ("board", "turn"),
    "order": ("board", "number"),
    "led": ("board", "place", "place"),
    "not led": ("board", "place", "place"),
    "block": ("board", "places"),
    "no block": ("board", "places"),
    "within": ("board", "board"),
    "not within": ("board", "board"),
    "alike": ("board", "board"),
    "together": ("board", "turn"),
    "not together": ("board", "turn"),
    "goes": ("board", "standing", "standing"),
    "never": ("board", "standing", "standing"),
    "reached": ("board", "standing", "number"),
    "steps": ("board", "room", "room"),
    "fewest": ("board", "turn", "number"),
    "spread": ("board", "value"),
    "ring": ("kind", "kind"),
    "no ring": ("kind", "kind"),
    "sure": ("board", "value", "value", "place", "place"),
}


def _is_number(given):
    return isinstance(given, int) and not isinstance(given, bool) and given >= 0


def _is_part(part, given, size):
    """Whether it is what this part of a claim has to be; the first board has so many places."""
    if part == "turn":
        return is_turn(given) and len(given) == size
    if part == "place":
        return is_integer(given, 0, size - 1)
    if part == "places":
        return are_ascending_places(given, size) and len(given) > 0
    if part == "standing":
        return is_standing(given, size)
    if part == "room":
        return is_standing(given, size) and given.count(EMPTY) == 1
    if part == "number":
        return _is_number(given)
    if part == "kind":
        return is_kind(given)
    return True


def _values_of(parts, told):
    """The list of what the parts of a claim tell, with boards for their texts; None if one tells nothing."""
    values = [board_in(given) if part == "board" else given for part, given in zip(parts, told)]
    boards = [value for part, value in zip(parts, values) if part == "board"]
    if any([board is None for board in boards]) or len({board.size for board in boards}) > 1:
        return None
    size = boards[0].size if len(boards) > 0 else 0
    return values if all([_is_part(part, value, size) for part, value in zip(parts, values)]) else None


def _is_nothing(paper):
    return isinstance(paper, tuple) and len(paper) == 0


def _makes(board, paper, turn):
    """Whether it is a making for the board that makes the turn."""
    return is_making(board, paper) and turns_of_steps(board, paper)[-1] == turn


def _shows_inside(board, turn, paper):
    return _makes(board, paper, turn)


def _shows_outside(board, turn, paper):
    # By a closed chain just the turns of the board come down.
    return is_closed(board, paper) and not inside(board, turn)


def _shows_order(board, number, paper):
    return is_closed(board, paper) and product_of([len(level) for level in paper[2]]) == number


def _shows_led(board, place, goal, paper):
    return is_row_of(board.names, paper) and turn_of_row(board, paper)[place] == goal


def _shows_not_led(board, place, goal, paper):
    if not are_ascending_places(paper, board.size) or place not in paper or goal in paper:
        return False
    return all([sorted(one_then(paper, turn)) == list(paper) for turn in button_turns(board)])


def _shows_block(board, places, paper):
    return _is_nothing(paper) and is_block(board, places)


def _shows_no_block(board, places, paper):
    if is_row_of(board.names, paper):
        kept = [goal in places for goal in one_then(places, turn_of_row(board, paper))]
        return any(kept) and not all(kept)
    if not is_pair(paper) or not all([is_integer(place, 0, board.size - 1) for place in paper]):
        return False
    one, other = paper
    return one in places and other in places and other not in reach_of(one, button_turns(board))


def _shows_within(one, other, paper):
    if not isinstance(paper, tuple) or len(paper) != len(one.buttons):
        return False
    return all([_makes(other, steps, turn) for steps, turn in zip(paper, button_turns(one))])


def _is_button_of(board, given):
    return isinstance(given, str) and given in board.names


def _shows_not_within(one, other, paper):
    if not is_pair(paper) or not _is_button_of(one, paper[0]):
        return False
    return _shows_outside(other, one.turn(paper[0]), paper[1])


def _shows_alike(one, other, paper):
    if not is_pair(paper) or not is_turn(paper[0]) or len(paper[0]) != one.size:
        return False
    turn, names = paper
    if not isinstance(names, tuple) or not all([_is_button_of(other, name) for name in names]):
        return False
    if len(names) != len(one.names) or sorted(list(names)) != list(other.names):
        return False
    renamed = placed(one, turn)
    turns = [other.turn(name) for name in names]
    return button_turns(renamed) == turns and renamed.ties == other.ties


def _shows_together(board, turn, paper):
    return _is_nothing(paper) and goes_with(turn, button_turns(board))


def _shows_not_together(board, turn, paper):
    return _is_button_of(board, paper) and not goes_with(turn, [board.turn(paper)])


def _shows_goes(board, one, other, paper):
    return is_row_of(board.names, paper) and things_of(one, led_back(turn_of_row(board, paper))) == other


def _are_few_standings(given, size):
    """Whether it is a tuple of standings, not more than may be shown."""
    if not isinstance(given, tuple) or len(given) > MOST_SHOWN:
        return False
    return all([is_standing(standing, size) for standing in given])


def _are_closed(board, standings):
    """Whether each button makes of each of these standings one of them."""
    known = {standing: True for standing in standings}
    backs = [led_back(turn) for turn in button_turns(board)]
    return all([things_of(standing, back) in known for standing in standings for back in backs])


def _shows_never(board, one, other, paper):
    if not _are_few_standings(paper, board.size) or one not in paper or other in paper:
        return False
    is_ascending = all([low < high for low, high in zip(paper, paper[1:])])
    return is_ascending and _are_closed(board, paper)


def _shows_reached(board, one, number, paper):
    if not _are_few_standings(paper, board.size) or len(paper) != number or number == 0:
        return False
    at = {standing: index for index, standing in enumerate(paper)}
    if paper[0] != one or len(at) != number or not _are_closed(board, paper):
        return False
    turns = [turn for _, turn in single_presses(board)]
    for index, standing in enumerate(paper):
        # The press that made it of one before it leads back there, if it is pressed the other way.
        if index > 0 and not any([at[things_of(standing, turn)] < index for turn in turns]):
            return False
    return True


def _shows_steps(board, one, other, paper):
    try:
        return run_steps(board, one, paper) == other
    except InvalidSteps:
        return False


def _are_few_layers(given, size):
    """Whether it is a tuple of ascending tuples of turns, one at least in each, not more than may be shown."""
    if not isinstance(given, tuple) or not all([isinstance(layer, tuple) and len(layer) > 0 for layer in given]):
        return False
    if sum([len(layer) for layer in given]) > MOST_SHOWN:
        return False
    if not all([is_turn(turn) and len(turn) == size for layer in given for turn in layer]):
        return False
    return all([low < high for layer in given for low, high in zip(layer, layer[1:])])


def _is_layering(board, given):
    if not _are_few_layers(given, board.size) or given[:1] != ((staying(board.size),),):
        return False
    at = layer_of_each(given)
    if len(at) != sum([len(layer) for layer in given]):
        return False
    presses = [turn for _, turn in single_presses(board)]
    for turn, index in at.items():
        layers = [at.get(one_then(turn, press), -1) for press in presses]
        if not all([layer in (index - 1, index, index + 1) and layer >= 0 for layer in layers]):
            return False
        if index > 0 and index - 1 not in layers:
            return False
    return True


def _shows_fewest(board, turn, number, paper):
    return _is_layering(board, paper) and number < len(paper) and turn in paper[number]


def _shows_spread(board, spread, paper):
    if not isinstance(spread, tuple) or not all([_is_number(many) for many in spread]):
        return False
    return _is_layering(board, paper) and tuple([len(layer) for layer in paper]) == spread


def _shows_ring(one, other, paper):
    if sum(one) != sum(other) or not is_pair(paper):
        return False
    if not all([is_turn(turn) and len(turn) == sum(one) for turn in paper]):
        return False
    if (kind_in(paper[0]), kind_in(paper[1])) != (one, other):
        return False
    return len(rings_in(one_then(paper[0], paper[1]))) == 1


def _shows_no_ring(one, other, paper):
    return sum(one) == sum(other) and isinstance(paper, str) and paper == bars(one, other)


def _shows_sure(board, name, looks, place, goal, paper):
    try:
        riddle = Riddle(board, name, looks)
    except (InvalidName, InvalidLooks):
        return False
    return _is_nothing(paper) and count_fits(riddle) > 0 and goals(riddle, place) == (goal,)


SHOWS = {
    "inside": _shows_inside,
    "outside": _shows_outside,
    "order": _shows_order,
    "led": _shows_led,
    "not led": _shows_not_led,
    "block": _shows_block,
    "no block": _shows_no_block,
    "within": _shows_within,
    "not within": _shows_not_within,
    "alike": _shows_alike,
    "together": _shows_together,
    "not together": _shows_not_together,
    "goes": _shows_goes,
    "never": _shows_never,
    "reached": _shows_reached,
    "steps": _shows_steps,
    "fewest": _shows_fewest,
    "spread": _shows_spread,
    "ring": _shows_ring,
    "no ring": _shows_no_ring,
    "sure": _shows_sure,
}


def accepts(claim, paper):
    """Whether this is a claim for the checker, and a paper for it."""
    if not isinstance(claim, tuple) or len(claim) == 0 or not isinstance(claim[0], str):
        return False
    if claim[0] not in PARTS or len(claim) != 1 + len(PARTS[claim[0]]):
        return False
    values = _values_of(PARTS[claim[0]], claim[1:])
    if values is None:
        return False
    shows = SHOWS[claim[0]]
    return shows(*values, paper)
