"""Blocks: places of one reach that all turns of a board keep together."""

from seatbuttons.boards import Board, check_board
from seatbuttons.checks import check_few_places, check_place, is_integer
from seatbuttons.errors import InvalidBlock, NotABlock, NotLed
from seatbuttons.unchecked import button_turns, one_then, reach_of


def _reach(board, place):
    return reach_of(place, button_turns(board))


def _block_around(board, places):
    """The least block that holds all of these places of one reach.

    All places are put into lots, two of which become one when a place of the one and a place of
    the other have to be together: the buttons lead places of one lot to places of one lot.
    """
    lots = list(range(board.size))
    waiting = [(places[0], place) for place in places[1:]]
    while len(waiting) > 0:
        one, other = waiting.pop()
        kept, gone = lots[one], lots[other]
        if kept != gone:
            lots = [kept if lot == gone else lot for lot in lots]
            waiting.extend([(turn[kept], turn[gone]) for turn in button_turns(board)])
    return tuple([place for place, lot in enumerate(lots) if lot == lots[places[0]]])


def _check_block(board, given):
    if not isinstance(given, tuple) or len(given) == 0:
        raise InvalidBlock(None)
    first = 0
    for index, place in enumerate(given):
        if not is_integer(place, first, board.size - 1):
            raise InvalidBlock(index)
        first = place + 1
    reach = _reach(board, given[0])
    if not all([place in reach for place in given]) or _block_around(board, given) != given:
        raise NotABlock(given)


def is_block(board, value):
    """Whether any value is a block of a board."""
    check_board(board)
    try:
        _check_block(board, value)
    except (InvalidBlock, NotABlock):
        return False
    return True


def least_block(board, places):
    """The block that holds all of these places and is part of each one that does."""
    check_board(board)
    check_few_places(places, board.size)
    reach = _reach(board, places[0])
    for place in places:
        if place not in reach:
            raise NotLed(places[0], place)
    return _block_around(board, places)


def blocks_with(board, place):
    """The tuple of all blocks that hold a place, those with fewer places first."""
    check_board(board)
    check_place(place, board.size)
    reach = _reach(board, place)
    found = [(place,)]
    met = {found[0]}
    at = 0
    # Each block but the place alone is the least one around a lesser one and one place more.
    while at < len(found):
        for more in reach:
            block = _block_around(board, (*found[at], more))
            if block not in met:
                met.add(block)
                found.append(block)
        at = at + 1
    return tuple(sorted(found, key=lambda lot: (len(lot), lot)))


def _is_lesser(block, other):
    """Whether a block is part of another one."""
    return block != other and all([place in other for place in block])


def top_blocks(board, place):
    """Those of all blocks that hold a place which are part of no other one but its reach."""
    # The reach is the last one.
    blocks = blocks_with(board, place)[:-1]
    return tuple([block for block in blocks if not any([_is_lesser(block, other) for other in blocks])])


def has_blocks(board, place):
    """Whether a place is in other blocks than it alone and its reach."""
    return len(blocks_with(board, place)) > 2


def _led_to(block, turn):
    """The block onto which a turn leads a block."""
    return tuple(sorted(one_then(block, turn)))


def led_blocks(board, block):
    """The ascending tuple of all blocks onto which a block is led."""
    check_board(board)
    _check_block(board, block)
    blocks = {block}
    waiting = [block]
    while len(waiting) > 0:
        here = waiting.pop()
        for turn in button_turns(board):
            there = _led_to(here, turn)
            if there not in blocks:
                blocks.add(there)
                waiting.append(there)
    return tuple(sorted(blocks))


def board_of(board, block):
    """The board whose places are the blocks onto which a block is led."""
    blocks = led_blocks(board, block)
    buttons = []
    for name, turn in board.buttons:
        buttons.append((name, tuple([blocks.index(_led_to(here, turn)) for here in blocks])))
    return Board(len(blocks), tuple(buttons), ())
