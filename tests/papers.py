"""Claims for the checker and their papers by the words of the document, and whether claims are so."""

import itertools

from seatbuttons.boards import Board
from seatbuttons.chains import is_chain
from seatbuttons.errors import InvalidText, NotRight
from seatbuttons.riddles import Riddle
from seatbuttons.turns import kind_of

from tests.groups import turns_of
from tests.riddling import behind_row, fitting
from tests.support import all_turns, one_then, staying
from tests.test_chain_values import closed_by_words, comes_down
from tests.test_makings import turns_made
from tests.test_renaming import has_renaming, is_renaming
from tests.walks import behind_turn, layers, singles, steps_of

PARTS = {
    "inside": "BT", "outside": "BT", "order": "BN", "led": "BPP", "not led": "BPP", "block": "BL", "no block": "BL",
    "within": "BB", "not within": "BB", "alike": "BB", "together": "BT", "not together": "BT", "goes": "BSS",
         "never": "BSS",
    "reached": "BSN", "steps": "BEE", "fewest": "BTN", "spread": "BV", "ring": "KK", "no ring": "KK", "sure": "BVVPP",
}


def board_in(text):
    try:
        return Board.read(text)
    except InvalidText:
        return None


def is_number(value):
    return type(value) is int and value >= 0


def is_turn(value, size):
    return type(value) is tuple and all(map(is_number, value)) and sorted(value) == list(range(size))


def is_standing(value, size):
    return type(value) is str and len(value) == size and set(value) <= set("abcdefghijklmnopqrstuvwxyz-")


def is_ascending(values):
    return all(low < high for low, high in itertools.pairwise(values))


def are_places(value, size):
    return type(value) is tuple and all(is_number(place) and place < size for place in value) and is_ascending(value)


def is_kind(value):
    if type(value) is not tuple or not value or not all(map(is_number, value)) or 0 in value:
        return False
    return is_ascending([-length + at / 1000 for at, length in enumerate(value)]) and sum(value) <= 24


def is_part(part, value, size):
    if part == "T":
        return is_turn(value, size)
    if part == "P":
        return is_number(value) and value < size
    if part == "L":
        return are_places(value, size) and value != ()
    if part in "SE":
        return is_standing(value, size) and (part == "S" or value.count("-") == 1)
    return {"N": is_number(value), "K": is_kind(value), "V": True}[part]


def read(claim):
    """The boards and other values behind the word of a claim, None if it is no claim for the checker."""
    if type(claim) is not tuple or not claim or type(claim[0]) is not str or claim[0] not in PARTS:
        return None
    parts, values, size = PARTS[claim[0]], [], None
    if len(claim) != len(parts) + 1:
        return None
    for part, value in zip(parts, claim[1:]):
        if part == "B":
            board = board_in(value)
            if board is None or size not in (None, board.size):
                return None
            size = board.size
            values.append(board)
        elif is_part(part, value, size):
            values.append(value)
        else:
            return None
    return values


def is_press(board, value):
    if type(value) is not tuple or len(value) != 2 or type(value[0]) is not str or type(value[1]) is not int:
        return False
    return value[0] in board.names and 0 < abs(value[1]) <= 10 ** 30


def is_row(board, value):
    return type(value) is tuple and len(value) <= 2000 and all(is_press(board, press) for press in value)


def goal_of(board, row, place):
    """The place to which a row leads one."""
    things = behind_row(board, {}, row, "".join("x" if at == place else "-" for at in range(board.size)))
    return things.index("x")


def is_step(board, value, index):
    if type(value) is tuple:
        return len(value) == 2 and all(is_number(step) and step < index for step in value)
    if type(value) is str:
        return value in board.names
    return value is None or is_number(value) and value < index


def makes(board, paper, turn):
    if type(paper) is not tuple or not 1 <= len(paper) <= 20000:
        return False
    return all(is_step(board, step, at) for at, step in enumerate(paper)) and turns_made(board, paper)[-1] == turn


def closed(board, paper):
    return is_chain(board, paper) and closed_by_words(board, paper)


def falls_out(board, turn, paper):
    return closed(board, paper) and not comes_down(turn, paper[1], paper[2], turns_made(board, paper[0]), 0)


def reach(board, place):
    return set(steps_of(place, lambda here: [turn[here] for _, turn in board.buttons]))


def product(numbers):
    found = 1
    for number in numbers:
        found *= number
    return found


def shows_not_led(board, place, goal, paper):
    if not are_places(paper, board.size):
        return False
    return place in paper and goal not in paper and all({turn[at] for at in paper} == set(paper) for _,
                                                        turn in board.buttons)


def is_block(board, places):
    turns = turns_of(board)
    if not set(places) <= reach(board, places[0]):
        return False
    lots = [{turn[place] for place in places} for turn in turns]
    return all(lot == set(places) or not lot & set(places) for lot in lots)


def shows_no_block(board, places, paper):
    if is_row(board, paper):
        kept = [goal_of(board, paper, place) in places for place in places]
        return True in kept and False in kept
    if type(paper) is not tuple or len(paper) != 2 or not all(is_number(place) and place in places for place in paper):
        return False
    return reach(board, paper[0]) != reach(board, paper[1])


def shows_within(one, other, paper):
    if type(paper) is not tuple or len(paper) != len(one.buttons):
        return False
    return all(makes(other, steps, turn) for steps, (_, turn) in zip(paper, one.buttons))


def shows_not_within(one, other, paper):
    if type(paper) is not tuple or len(paper) != 2 or type(paper[0]) is not str or paper[0] not in one.names:
        return False
    return falls_out(other, one.turn(paper[0]), paper[1])


def shows_alike(one, other, paper):
    if type(paper) is not tuple or len(paper) != 2 or not is_turn(paper[0], one.size) or type(paper[1]) is not tuple:
        return False
    return all(type(name) is str for name in paper[1]) and is_renaming(paper, one, other)


def together(board, turn):
    return [name for name, other in board.buttons if one_then(turn, other) != one_then(other, turn)]


def is_closed_lot(board, paper, unlike):
    if type(paper) is not tuple or len(paper) > 5000 or not all(is_standing(some, board.size) for some in paper):
        return False
    if len(set(paper)) != len(paper) or not unlike and not is_ascending(paper):
        return False
    return all(behind_turn(some, turn) in paper for some in paper for _, turn in board.buttons)


def shows_never(board, one, other, paper):
    return is_closed_lot(board, paper, False) and one in paper and other not in paper


def shows_reached(board, one, number, paper):
    if not is_closed_lot(board, paper, True) or len(paper) != number or not paper or paper[0] != one:
        return False
    return all(any(behind_turn(before, turn) == some for before in paper[:at] for _, turn in singles(board))
               for at, some in enumerate(paper) if at > 0)


def shows_steps(board, one, other, paper):
    if type(paper) is not tuple or len(paper) > 2000:
        return False
    for step in paper:
        if type(step) is not tuple or len(step) != 2 or type(step[0]) is not str or type(step[1]) is not int:
            return False
        empty = one.index("-")
        if step[0] == ">" and tuple(sorted((step[1], empty))) in board.ties:
            things = list(one)
            things[empty], things[step[1]] = things[step[1]], "-"
            one = "".join(things)
        elif step[0] in board.names and abs(step[1]) == 1:
            one = behind_row(board, {}, (step,), one)
        else:
            return False
    return one == other


def is_layering(board, paper):
    if type(paper) is not tuple or not paper or not all(type(some) is tuple and some for some in paper):
        return False
    listed = [turn for some in paper for turn in some]
    if len(listed) > 5000 or not all(is_turn(turn, board.size) for turn in listed) or len(set(listed)) < len(listed):
        return False
    if paper[0] != (staying(board.size),) or not all(map(is_ascending, paper)):
        return False
    for at, some in enumerate(paper):
        near = {turn for layer in paper[max(at - 1, 0):at + 2] for turn in layer}
        made = [one_then(turn, press) for turn in some for _, press in singles(board)]
        if not set(made) <= near:
            return False
        if at + 1 < len(paper) and not set(paper[at + 1]) <= set(made):
            return False
    return True


def shows_spread(board, spread, paper):
    if type(spread) is not tuple or not all(map(is_number, spread)):
        return False
    return is_layering(board, paper) and tuple(map(len, paper)) == spread


def shows_ring(one, other, paper):
    if sum(one) != sum(other) or type(paper) is not tuple or len(paper) != 2:
        return False
    if not all(is_turn(turn, sum(one)) for turn in paper) or (kind_of(paper[0]), kind_of(paper[1])) != (one, other):
        return False
    return kind_of(one_then(*paper)) == (sum(one),)


def what_bars(one, other):
    room = sum(one) + 1 - len(one) - len(other)
    return "sign" if room % 2 else "rings" if room < 0 else None


def shows_sure(board, name, looks, place, goal, paper):
    return paper == () and type(paper) is tuple and is_sure(board, name, looks, place, goal)


def is_sure(board, name, looks, place, goal):
    try:
        Riddle(board, name, looks)
    except NotRight:
        return False
    found = fitting(board, name, looks, all_turns(board.size))
    return found != [] and all(turn[place] == goal for turn in found)


def nothing(paper):
    return type(paper) is tuple and paper == ()


SHOWS = {
    "inside": lambda board, turn, paper: makes(board, paper, turn),
    "outside": falls_out,
    "order": lambda board, number, paper: closed(board, paper) and product(map(len, paper[2])) == number,
    "led": lambda board, place, goal, paper: is_row(board, paper) and goal_of(board, paper, place) == goal,
    "not led": shows_not_led,
    "block": lambda board, places, paper: nothing(paper) and is_block(board, places),
    "no block": shows_no_block,
    "within": shows_within,
    "not within": shows_not_within,
    "alike": shows_alike,
    "together": lambda board, turn, paper: nothing(paper) and together(board, turn) == [],
    "not together": lambda board, turn, paper: type(paper) is str and paper in together(board, turn),
    "goes": lambda board, one, other, paper: is_row(board, paper) and behind_row(board, {}, paper, one) == other,
    "never": shows_never,
    "reached": shows_reached,
    "steps": shows_steps,
    "fewest": lambda board, turn, number, paper: is_layering(board,
                                                             paper) and turn in dict(enumerate(paper)).get(number, ()),
    "spread": shows_spread,
    "ring": shows_ring,
    "no ring": lambda one, other, paper: sum(one) == sum(other) and type(paper) is str and paper == what_bars(one, other),
    "sure": shows_sure,
}


def is_shown(claim, paper):
    """Whether this is a claim for the checker, and a paper for it."""
    values = read(claim)
    return values is not None and SHOWS[claim[0]](*values, paper)


def reached(board, one):
    return {behind_turn(one, turn) for turn in turns_of(board)}


def come_to(board, one):
    def after(here):
        empty = here.index("-")
        slid = [behind_turn(here, tuple({low: high, high: low}.get(at, at) for at in range(board.size)))
                for low, high in board.ties if empty in (low, high)]
        return slid + [behind_turn(here, turn) for _, turn in singles(board)]
    return steps_of(one, after)


def layers_of(board):
    return layers(staying(board.size), lambda here: [one_then(here, turn) for _, turn in singles(board)])


def makes_ring(one, other):
    return any(kind_of(one_then(first, last)) == (sum(one),) for first in all_turns(sum(one)) if kind_of(first) == one
               for last in all_turns(sum(one)) if kind_of(last) == other)


SO = {
    "inside": lambda board, turn: turn in turns_of(board),
    "outside": lambda board, turn: turn not in turns_of(board),
    "order": lambda board, number: len(turns_of(board)) == number,
    "led": lambda board, place, goal: goal in reach(board, place),
    "not led": lambda board, place, goal: goal not in reach(board, place),
    "block": is_block,
    "no block": lambda board, places: not is_block(board, places),
    "within": lambda one, other: set(turns_of(one)) <= set(turns_of(other)),
    "not within": lambda one, other: not set(turns_of(one)) <= set(turns_of(other)),
    "alike": has_renaming,
    "together": lambda board, turn: all(one_then(turn, some) == one_then(some, turn) for some in turns_of(board)),
    "not together": lambda board, turn: any(one_then(turn, some) != one_then(some, turn) for some in turns_of(board)),
    "goes": lambda board, one, other: other in reached(board, one),
    "never": lambda board, one, other: other not in reached(board, one),
    "reached": lambda board, one, number: len(reached(board, one)) == number,
    "steps": lambda board, one, other: other in come_to(board, one),
    "fewest": lambda board, turn, number: number < len(layers_of(board)) and turn in layers_of(board)[number],
    "spread": lambda board, spread: spread == tuple(map(len, layers_of(board))),
    "ring": makes_ring,
    "no ring": lambda one, other: not makes_ring(one, other),
    "sure": is_sure,
}


def is_so(claim):
    """Whether a claim for the checker about a few places is so, going through all turns."""
    return SO[claim[0]](*read(claim))


def bent(value):
    """All that comes of a value by changing it in one part, also what has the wrong form then."""
    if isinstance(value, tuple):
        found = [list(value), value[1:], value[:-1], value[::-1], (*value, None), (value,), value + value[-1:],
                 value[:1] + value, {}]
        for at, part in enumerate(value):
            found += [value[:at] + (other,) + value[at + 1:] for other in bent(part)]
            found += [value[:at] + value[at + 1:], value[:at] + value[at:at + 1] * 2 + value[at + 1:]]
            found += [value[:at] + (value[at + 1], value[at]) + value[at + 2:]] if at + 1 < len(value) else []
        return found
    if isinstance(value, int):
        return [value + 1, value - 1, -value, bool(value), str(value), None, (value,), 10 ** 30, [value],
                value + 10 ** 31]
    if isinstance(value, str):
        return [value + "a", value[:-1], value[::-1], value.upper(), "", None, (value,), 0, value + " ; tie 0 1",
                value.encode()]
    return [0, 1, "a", (), False, (0, 0), []]


