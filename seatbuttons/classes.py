"""The turns of a board one by one: of which kinds they are, and which ones are alike among them."""

from seatbuttons.boards import check_board
from seatbuttons.searching import count_lots
from seatbuttons.towers import all_turns, check_few_turns, tower_with, whole_tower
from seatbuttons.unchecked import button_turns, goes_with, is_even_turn, kind_in, led_back, one_then


def _all_turns_of(board):
    check_board(board)
    return all_turns(whole_tower(board))


def kinds_in(board):
    """The pairs of a kind and how many turns of the board are of it, kinds descending."""
    counts = {}
    for turn in _all_turns_of(board):
        kind = kind_in(turn)
        counts[kind] = counts.get(kind, 0) + 1
    return tuple(sorted(counts.items(), reverse=True))


def _class_around(board, turn):
    """The dict of all turns of the class of a turn."""
    renamings = [(led_back(by), by) for by in button_turns(board)]
    found = {turn: True}
    waiting = [turn]
    while len(waiting) > 0:
        here = waiting.pop()
        for back, by in renamings:
            there = one_then(one_then(back, here), by)
            if there not in found:
                found[there] = True
                waiting.append(there)
    return found


def class_of(board, turn):
    """The class of a turn of a board: the ascending tuple of all that it becomes by renaming places."""
    check_few_turns(tower_with(board, turn))
    return tuple(sorted(_class_around(board, turn)))


def count_classes(board):
    """How many classes the turns of a board have."""
    return count_lots(_all_turns_of(board), lambda turn: _class_around(board, turn))


def centre(board):
    """The ascending tuple of the turns of a board that go together with it."""
    return tuple(sorted([turn for turn in _all_turns_of(board) if goes_with(turn, button_turns(board))]))


def is_even_board(board):
    """Whether all turns of a board are even."""
    check_board(board)
    return all([is_even_turn(turn) for turn in button_turns(board)])
