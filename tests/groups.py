"""Boards whose turns are known, and all turns of boards of a few places."""

import itertools

from seatbuttons.boards import Board
from seatbuttons.turns import turn_of

from tests.support import all_turns, one_then, staying


def turns_of(board):
    """All turns of a board, ascending, by going on with each button from each turn that was met."""
    found = {staying(board.size)}
    latest = list(found)
    while latest:
        behind = {one_then(turn, button) for turn in latest for _, button in board.buttons} - found
        found |= behind
        latest = list(behind)
    return sorted(found)


def board_of(*turns, names="abcdefgh"):
    """A board with these turns, all of one size."""
    return Board(len(turns[0]), tuple(zip(names, turns)), ())


def whole(size):
    """A board that makes all turns of two places and more."""
    return board_of(turn_of(size, ((0, 1),)), turn_of(size, (tuple(range(size)),)))


def evens(size):
    """A board that makes all even turns of four places and more."""
    return board_of(*[turn_of(size, ((at, at + 1, at + 2),)) for at in (0, 1)],
                    turn_of(size, (tuple(range(1 - size % 2, size)),)))


def ring(size):
    return board_of(turn_of(size, (tuple(range(size)),)))


def ring_turned_over(size):
    return board_of(turn_of(size, (tuple(range(size)),)), tuple(range(size))[::-1])


def pairs_kept(pairs):
    """A board that makes all turns which keep the pairs (0, 1), (2, 3) and so on together."""
    size = 2 * pairs
    return board_of(turn_of(size, ((0, 1),)), turn_of(size, ((0, 2), (1, 3))),
                    tuple((place + 2) % size for place in range(size)))


def apart(*sizes):
    """A board that makes all turns of each of several lots of two places and more, one behind the other."""
    turns, start = [], 0
    for size in sizes:
        lot = tuple(range(start, start + size))
        turns += [turn_of(sum(sizes), (lot[:2],)), turn_of(sum(sizes), (lot,))]
        start += size
    return board_of(*turns)


def little_cube():
    """The 24 stickers of a cube of eight corners; turns of three sides and of the whole cube."""
    corners = list(itertools.product((0, 1), repeat=3))
    stickers = [(corner, axis) for corner in corners for axis in range(3)]

    def quarter(corner, axis):
        """Where a quarter turn around an axis brings a corner or a side."""
        one, other = [at for at in range(3) if at != axis]
        moved = list(corner)
        moved[one], moved[other] = corner[other], 1 - corner[one]
        return tuple(moved)

    def turning(axis, sides):
        goals = []
        for corner, side in stickers:
            if corner[axis] in sides:
                one, other = [at for at in range(3) if at != axis]
                side = {one: other, other: one, axis: axis}[side]
                corner = quarter(corner, axis)
            goals.append(stickers.index((corner, side)))
        return tuple(goals)

    return board_of(*[turning(axis, (0,)) for axis in range(3)], *[turning(axis, (1,)) for axis in range(3)])


def mathieu():
    """Mathieu's group of 24 places: five unlike places go to any five."""
    return board_of(
        turn_of(24, (tuple(range(23)),)),
        turn_of(24, ((2, 16, 9, 6, 8), (3, 12, 13, 18, 4), (7, 17, 10, 11, 22), (14, 19, 21, 20, 15))),
        turn_of(24, ((0, 23), (1, 22), (2, 11), (3, 15), (4, 17), (5, 9), (6, 19), (7, 13), (8, 20), (10, 16),
                     (12, 21), (14, 18))),
    )


def small_boards():
    """Boards of up to five places of all sorts, none with too many turns to go through."""
    boards = [Board(size, (), ()) for size in range(1, 5)]
    boards += [board_of(turn) for size in range(1, 5) for turn in all_turns(size)]
    boards += [board_of(*pair) for pair in itertools.combinations(all_turns(3), 2)]
    boards += [board_of(*pair) for pair in list(itertools.combinations(all_turns(4), 2))[::7]]
    boards += [board_of(*three) for three in list(itertools.combinations(all_turns(5), 2))[::613]]
    boards += [board_of((0, 2, 1, 4, 3), (0, 3, 4, 1, 2)), board_of((1, 0, 2, 4, 3), (0, 1, 2, 4, 3))]
    return boards


def six_places():
    """Boards of six places whose turns are not all, the even ones, or few."""
    return [pairs_kept(3), ring_turned_over(6), apart(2, 4), apart(3, 3),
            board_of((1, 2, 3, 4, 0, 5), (0, 4, 3, 2, 1, 5), (5, 1, 4, 3, 2, 0))]


def just_5000():
    """A board of 20 places with 5000 turns: four rings of five, of which all but one can be turned over."""
    lots = [tuple(range(start, start + 5)) for start in (0, 5, 10, 15)]
    return board_of(*[turn_of(20, (lot,)) for lot in lots],
                    *[turn_of(20, ((lot[1], lot[4]), (lot[2], lot[3]))) for lot in lots[1:]])


def just_20000():
    """A board of 22 places with 20000 turns: four rings of five that can be turned over, and a swap."""
    turns = []
    for start in (0, 5, 10, 15):
        lot = tuple(range(start, start + 5))
        # The swap comes with the first ring, whose sixth power is itself and lets the swap be.
        turns.append(turn_of(22, (lot, (20, 21)) if start == 0 else (lot,)))
        turns.append(turn_of(22, ((lot[1], lot[4]), (lot[2], lot[3]))))
    return board_of(*turns)
