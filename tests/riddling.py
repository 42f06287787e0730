"""Looks that are made up, and what they tell, going through all turns."""

import itertools

from tests.support import staying, times_over
from tests.walks import behind_turn


def power_of(turn, number):
    """The power of a turn of a few places, also with great numbers."""
    again = next(many for many in itertools.count(1) if times_over(turn, many) == staying(len(turn)))
    return times_over(turn, number % again)


def behind_row(board, hidden, row, standing):
    """The standing behind a row, press by press, the hidden buttons having told turns."""
    for name, number in row:
        turn = hidden[name] if name in hidden else board.turn(name)
        standing = behind_turn(standing, power_of(turn, number))
    return standing


def a_row(rng, board, numbers):
    """A row of a few presses of the board's buttons."""
    return tuple((rng.choice(board.names), rng.choice(numbers)) for _ in range(rng.randrange(4)) if board.names)


def a_standing(rng, size):
    return "".join(rng.choice(rng.choice(["ab", "abc-", "a-", "abcdefgh"])) for _ in range(size))


def marks_of(board, name, looks):
    """The marks and the far marks of all places, as the document words them."""
    near, far = [], []
    for before, row, after in looks:
        at = [pressed for pressed, _ in row].index(name)
        ahead = behind_row(board, {}, row[:at], before)
        back = tuple((pressed, -number) for pressed, number in row[at + 1:][::-1])
        behind = behind_row(board, {}, back, after)
        near.append(ahead if row[at][1] == 1 else behind)
        far.append(behind if row[at][1] == 1 else ahead)
    places = range(board.size)
    return [tuple(one[place] for one in near) for place in places], [tuple(one[place] for one in far) for place in places]


def fitting(board, name, looks, turns):
    """Those of the turns that fit all looks."""
    return [turn for turn in turns if all(behind_row(board, {name: turn}, row, before) == after
                                          for before, row, after in looks)]

