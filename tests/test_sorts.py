"""Tests of seatbuttons.sorts against going through all standings, and against known numbers."""

import itertools
import math
import unittest

from seatbuttons.boards import Board
from seatbuttons.errors import InvalidCounts, InvalidNumber, NotABoard, TooMany
from seatbuttons.sorts import sorts, sorts_with
from seatbuttons.standings import least

from tests.groups import apart, board_of, evens, just_20000, little_cube, mathieu, pairs_kept, ring, ring_turned_over
from tests.groups import six_places, small_boards, turns_of, whole
from tests.support import NO_INTEGERS, NO_VALUES, Telling, nested, no_boards, staying
from tests.walks import behind_turn

SQUARE = ring_turned_over(4)
GREAT = 10 ** 30


def least_ones(board, standings):
    """The least ones of these standings, found by all turns."""
    turns = turns_of(board)
    return {min(behind_turn(standing, turn) for turn in turns) for standing in standings}


def arranged(counts):
    """All standings with so many things of each sign."""
    signs = "".join(sign * count for sign, count in zip("-abcdef", counts))
    return sorted({"".join(order) for order in itertools.permutations(signs)})


def some_boards():
    return small_boards()[::5] + [Board(1, (), ()), board_of(staying(3), staying(3)), Board(3, SQUARE.buttons[:0], ((0, 2),))]


def beads(size, signs):
    """How many sorts of rings there are, none of which is turned over."""
    return sum(signs ** math.gcd(size, at) for at in range(size)) // size


class AllStandings(Telling):
    def test_sorts(self):
        for board in some_boards():
            for signs in range(5 if board.size < 5 else 3):
                standings = ["".join(some) for some in itertools.product("-abcd"[:signs], repeat=board.size)]
                self.gives(len(least_ones(board, standings)), sorts, board, signs)

    def test_sorts_of_six_places(self):
        for board in six_places():
            standings = ["".join(some) for some in itertools.product("-a", repeat=6)]
            self.gives(len({least(board, standing) for standing in standings}), sorts, board, 2)

    def test_sorts_with(self):
        for board in some_boards():
            for counts in itertools.product(range(board.size + 1), repeat=3):
                if sum(counts) == board.size:
                    self.gives(len(least_ones(board, arranged(counts))), sorts_with, board, counts)

    def test_sorts_with_of_six_places(self):
        for board in six_places():
            for counts in ((3, 3), (0, 2, 4), (1, 2, 3), (1, 1, 1, 1, 1, 1), (2, 0, 2, 0, 2), (6,), (1, 5), (2, 2, 1, 1)):
                told = {least(board, standing) for standing in arranged(counts)}
                self.gives(len(told), sorts_with, board, counts)

    def test_the_sum_over_all_counts(self):
        for board in six_places() + [ring(7), pairs_kept(4)]:
            counts = [some for some in itertools.product(range(board.size + 1), repeat=3) if sum(some) == board.size]
            self.assertEqual(sum(sorts_with(board, some) for some in counts), sorts(board, 3))


class KnownNumbers(Telling):
    def test_great_numbers_of_signs(self):
        for signs in (0, 1, 2, 27, 10 ** 9, GREAT - 1, GREAT):
            self.gives(signs ** 24, sorts, Board(24, (), ()), signs)
            self.gives(beads(24, signs), sorts, ring(24), signs)
            self.gives(beads(23, signs), sorts, ring(23), signs)
            self.gives((beads(24, signs) + (signs ** 12 + signs ** 13) // 2) // 2, sorts, ring_turned_over(24), signs)
            self.gives(math.comb(signs + 6, 7), sorts, whole(7), signs)
            self.gives(math.comb(signs + 6, 7) + math.comb(signs, 7), sorts, evens(7), signs)
            pairs = math.comb(signs + 1, 2)
            self.gives(math.comb(pairs + 4, 5), sorts, pairs_kept(5), signs)
            self.gives(math.comb(signs + 2, 3) * math.comb(signs + 3, 4), sorts, apart(3, 4), signs)

    def test_known_counts(self):
        board = Board(24, (), ())
        self.gives(math.factorial(24), sorts_with, board, (1,) * 24)
        self.gives(math.factorial(24) // 2 ** 12, sorts_with, board, (2,) * 12)
        self.gives(1, sorts_with, board, (24,))
        self.gives(math.factorial(23), sorts_with, ring(24), (1,) * 24)
        self.gives(math.comb(24, 1) // 24, sorts_with, ring(24), (1, 23))
        self.gives(math.comb(23, 11) // 23, sorts_with, ring(23), (11, 12))
        self.gives(math.factorial(23) // 2, sorts_with, ring_turned_over(24), (1,) * 24)
        self.gives(2, sorts_with, evens(7), (1,) * 7)
        self.gives(1, sorts_with, evens(7), (2, 1, 1, 1, 1, 1))
        self.gives(3, sorts_with, pairs_kept(5), (4, 6))
        self.gives(4, sorts_with, apart(3, 4), (3, 4))

    def test_counts_in_any_order(self):
        for board in (SQUARE, ring(4), Board(4, (), ()), board_of((1, 0, 3, 2))):
            for counts in ((2, 1, 1), (3, 1, 0), (2, 2, 0), (1, 1, 1, 1)):
                told = {sorts_with(board, order) for order in itertools.permutations(counts)}
                self.assertEqual(len(told), 1)

    def test_noughts_among_the_counts(self):
        self.gives(2, sorts_with, SQUARE, (0, 2, 0, 2, 0))
        self.gives(1, sorts_with, SQUARE, (0,) * 26 + (4,))
        self.gives(3, sorts_with, SQUARE, (1,) * 4 + (0,) * 23)
        self.gives(1, sorts_with, Board(1, (), ()), (1,))
        self.gives(1, sorts_with, Board(1, (), ()), (0,) * 13 + (1,) + (0,) * 13)

    def test_20000_turns(self):
        board = just_20000()
        five = math.comb(GREAT, 1) * (GREAT ** 4 + 5 * GREAT ** 2 + 4) // 10
        self.gives(five ** 4 * math.comb(GREAT + 1, 2), sorts, board, GREAT)
        self.gives(1, sorts, board, 1)
        self.gives(8 ** 4 * 3, sorts, board, 2)
        self.assertEqual(sum(sorts_with(board, (count, 22 - count)) for count in range(23)), 8 ** 4 * 3)

    def test_more_turns(self):
        for board in (evens(8), whole(24), mathieu(), little_cube(), apart(5, 5, 3)):
            for signs in (0, 1, 2, GREAT):
                self.tells(TooMany(20000), sorts, board, signs)
            self.tells(TooMany(20000), sorts_with, board, (board.size,))


class Wrong(Telling):
    def test_names(self):
        self.takes(sorts, "board", "signs")
        self.takes(sorts_with, "board", "counts")

    def test_no_boards(self):
        for wrong in no_boards():
            self.tells(NotABoard(wrong), sorts, wrong, 2)
            self.tells(NotABoard(wrong), sorts_with, wrong, (4,))

    def test_wrong_numbers(self):
        for wrong in NO_INTEGERS + [-1, GREAT + 1, -GREAT]:
            self.tells(InvalidNumber(wrong), sorts, SQUARE, wrong)

    def test_wrong_counts(self):
        wrong = NO_VALUES + [0, 4, (), [4], [2, 2], {2: 2}, "22", (3,), (5,), (2, 1), (2, 3), (4, 1), (0,), (0, 0), nested(20)]
        wrong += [(-1, 5), (5, -1), (4, -4, 4), (-1, 3, 2), (2, 3, -1), (True, 3), (3, True), (False, 4), (4, False), ((4,),), (2, (2,)), (2, "2")]
        wrong += [(1, 1, 2) + (0,) * 25, (4,) + (0,) * 27, (0,) * 28, (1,) * 24, (GREAT,), (GREAT, 4 - GREAT), (2, nested(19))]
        wrong += [(4, value) for value in NO_VALUES] + [(value, 2, 2) for value in NO_VALUES]
        for counts in wrong:
            self.tells(InvalidCounts(counts), sorts_with, SQUARE, counts)
        self.tells(InvalidCounts((0,)), sorts_with, Board(1, (), ()), (0,))

    def test_order_of_errors(self):
        board = (0, None, NotABoard(None))
        self.tells_in_order(sorts, (SQUARE, 2), board, (1, -1, InvalidNumber(-1)))
        self.tells_in_order(sorts, (SQUARE, 2), (1, -1, InvalidNumber(-1)), (0, whole(8), TooMany(20000)))
        self.tells_in_order(sorts_with, (SQUARE, (4,)), board, (1, (8, 1), InvalidCounts((8, 1))))
        self.tells_in_order(sorts_with, (ring(8), (8,)), (1, (8, 1), InvalidCounts((8, 1))), (0, whole(8), TooMany(20000)))

    def test_the_board_is_not_changed(self):
        before = (dict(vars(SQUARE)), SQUARE.text)
        sorts(SQUARE, 3)
        sorts_with(SQUARE, (2, 2))
        self.assertEqual((dict(vars(SQUARE)), SQUARE.text), before)


if __name__ == "__main__":
    unittest.main()
