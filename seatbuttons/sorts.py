"""How many sorts of standings there are: lots of those that are reached from one another.

Cauchy, Frobenius: as many as there are pairs of a turn and a standing that it makes of itself,
divided by the number of turns. A turn does so if the things of each of its rings are alike.
"""

from math import comb

from seatbuttons.boards import check_board
from seatbuttons.checks import check_number, is_integer
from seatbuttons.classes import kinds_in
from seatbuttons.errors import InvalidCounts
from seatbuttons.limits import MOST_TIMES

MOST_SIGNS = 27


def sorts(board, signs):
    """How many sorts of standings there are with so many signs to choose from."""
    check_board(board)
    check_number(signs, 0, MOST_TIMES)
    turns = [0] * (board.size + 1)
    for kind, many in kinds_in(board):
        turns[len(kind)] = turns[len(kind)] + many
    kept = 0
    for many in turns[::-1]:
        kept = kept * signs + many
    return kept // sum(turns)


def _check_counts(given, size):
    if not isinstance(given, tuple) or len(given) > MOST_SIGNS:
        raise InvalidCounts(given)
    if not all([is_integer(count, 0, size) for count in given]) or sum(given) != size:
        raise InvalidCounts(given)


def _ways_to_take(lengths, rings, places):
    """Pairs of how many rings of each length are left, and in how many ways, if some are taken.

    The rings that are taken have so many places in all.
    """
    if len(lengths) == 0:
        return [((), 1)] if places == 0 else []
    found = []
    for taken in range(min(rings[0], places // lengths[0]) + 1):
        ways = comb(rings[0], taken)
        for left, more in _ways_to_take(lengths[1:], rings[1:], places - taken * lengths[0]):
            found.append(((rings[0] - taken, *left), ways * more))
    return found


def _count_kept(kind, counts):
    """How many standings with so many things of each sign a turn of this kind makes of themselves."""
    lengths = sorted(set(kind))
    ways = {tuple([kind.count(length) for length in lengths]): 1}
    for count in counts:
        later = {}
        for rings, many in ways.items():
            for left, more in _ways_to_take(lengths, rings, count):
                later[left] = later.get(left, 0) + many * more
        ways = later
    return sum(ways.values())


def sorts_with(board, counts):
    """How many sorts there are of standings with so many things of each of the signs."""
    check_board(board)
    _check_counts(counts, board.size)
    kinds = kinds_in(board)
    kept = sum([many * _count_kept(kind, counts) for kind, many in kinds])
    return kept // sum([many for _, many in kinds])
