"""Tests of seatbuttons.swaps against going through all rows of swaps, and on known turns."""

import itertools
import math
import unittest

from seatbuttons.boards import Board
from seatbuttons.errors import InvalidPlace, InvalidTurn, NotABoard, OtherSize, TooMany
from seatbuttons.swaps import fewest_swaps, hub_swaps, swap_rows, tied_swaps
from seatbuttons.turns import turn_of

from tests.groups import ring
from tests.support import NO_PLACES, Telling, all_turns, no_boards, one_then, staying, wrong_turns
from tests.walks import steps_of

LINE = Board(4, (), ((0, 1), (1, 2), (2, 3)))


def swaps_of(size):
    """All swaps of two places, with the turns that they make."""
    return {pair: turn_of(size, (pair,)) for pair in itertools.combinations(range(size), 2)}


def rows_by_length(size, longest):
    """For each length how many tuples of so many swaps make which turn, going through all tuples."""
    found = []
    for many in range(longest + 1):
        counts = {}
        for row in itertools.product(swaps_of(size).values(), repeat=many):
            made = staying(size)
            for swap in row:
                made = one_then(made, swap)
            counts[made] = counts.get(made, 0) + 1
        found.append(counts)
    return found


def fewest_of(size, swaps):
    """By how few of these swaps each turn is made that they make."""
    return steps_of(staying(size), lambda here: [one_then(here, swap) for swap in swaps])


class AnyPlaces(Telling):
    def test_all_rows(self):
        for size in (1, 2, 3, 4):
            rows = rows_by_length(size, size - 1)
            for turn in all_turns(size):
                many = [turn in counts for counts in rows].index(True)
                self.gives(many, fewest_swaps, turn)
                self.gives(rows[many][turn], swap_rows, turn)

    def test_five_and_six_places(self):
        for size in (5, 6):
            fewest = fewest_of(size, swaps_of(size).values())
            rows = {staying(size): 1}
            for turn in sorted(fewest, key=fewest.get)[1:]:
                self.gives(fewest[turn], fewest_swaps, turn)
                rests = [one_then(swap, turn) for swap in swaps_of(size).values()]
                rows[turn] = sum(rows[rest] for rest in rests if fewest[rest] < fewest[turn])
                self.gives(rows[turn], swap_rows, turn)

    def test_24_places(self):
        ring_of_all = tuple(range(1, 24)) + (0,)
        self.gives(23, fewest_swaps, ring_of_all)
        self.gives(24 ** 22, swap_rows, ring_of_all)
        self.gives(0, fewest_swaps, staying(24))
        self.gives(1, swap_rows, staying(24))
        pairs = turn_of(24, tuple((at, at + 1) for at in range(0, 24, 2)))
        self.gives(12, fewest_swaps, pairs)
        self.gives(math.factorial(12), swap_rows, pairs)
        two = turn_of(24, (tuple(range(10)), tuple(range(10, 24))))
        self.gives(22, fewest_swaps, two)
        self.gives(math.comb(22, 9) * 10 ** 8 * 14 ** 12, swap_rows, two)
        three = turn_of(24, ((3, 9, 20), (1, 2)))
        self.gives(3, fewest_swaps, three)
        self.gives(9, swap_rows, three)


class Hub(Telling):
    def test_all_turns(self):
        for size in (1, 2, 3, 4, 5):
            for hub in range(size):
                swaps = [turn for pair, turn in swaps_of(size).items() if hub in pair]
                fewest = fewest_of(size, swaps)
                self.assertEqual(len(fewest), math.factorial(size))
                for turn in all_turns(size):
                    self.gives(fewest[turn], hub_swaps, turn, hub)

    def test_24_places(self):
        ring_of_all = tuple(range(1, 24)) + (0,)
        for hub in (0, 11, 23):
            self.gives(23, hub_swaps, ring_of_all, hub)
            self.gives(0, hub_swaps, staying(24), hub)
        pairs = turn_of(24, tuple((at, at + 1) for at in range(0, 24, 2)))
        self.gives(1 + 3 * 11, hub_swaps, pairs, 7)
        two = turn_of(24, (tuple(range(10)), tuple(range(10, 23))))
        self.gives(9 + 14, hub_swaps, two, 0)
        self.gives(11 + 12, hub_swaps, two, 22)
        self.gives(11 + 14, hub_swaps, two, 23)


class Tied(Telling):
    def check_row(self, board, turn, many):
        """What is told of the turn: a shortest tuple of ties, or None if there is none."""
        row = tied_swaps(board, turn)
        self.gives(row, tied_swaps, board, turn)
        if many is None:
            self.assertIsNone(row)
            return
        self.assertIs(type(row), tuple)
        self.assertEqual(len(row), many)
        made = staying(board.size)
        for tie in row:
            self.assertIn(tie, board.ties)
            made = one_then(made, turn_of(board.size, (tie,)))
        self.assertEqual(made, turn)

    def check_board(self, board, turns):
        fewest = fewest_of(board.size, [turn_of(board.size, (tie,)) for tie in board.ties])
        for turn in turns:
            self.check_row(board, turn, fewest.get(turn))

    def test_all_ties_of_few_places(self):
        for size in (1, 2, 3, 4):
            pairs = list(itertools.combinations(range(size), 2))
            for many in range(len(pairs) + 1):
                for ties in itertools.combinations(pairs, many):
                    self.check_board(Board(size, (), ties), all_turns(size))

    def test_five_to_seven_places(self):
        for size in (5, 6, 7):
            line = tuple((at, at + 1) for at in range(size - 1))
            star = tuple((0, at) for at in range(1, size))
            lots = ((0, 1), (0, 2), (1, 2), (3, 4))
            for ties in (line, star, lots, tuple(itertools.combinations(range(size), 2))):
                self.check_board(Board(size, (), ties), all_turns(size)[::{5: 11, 6: 119, 7: 2519}[size]])

    def test_buttons_make_nothing(self):
        board = Board(3, (("a", (1, 0, 2)), ("b", (0, 2, 1))), ((0, 1),))
        self.check_board(board, all_turns(3))
        self.gives(None, tied_swaps, board, (0, 2, 1))
        self.gives((), tied_swaps, board, (0, 1, 2))
        self.gives(None, tied_swaps, ring(4), (1, 2, 3, 0))
        self.gives((), tied_swaps, ring(4), staying(4))

    def test_known_turns(self):
        self.assertEqual(len(tied_swaps(LINE, (3, 2, 1, 0))), 6)
        self.gives(((2, 3),), tied_swaps, LINE, (0, 1, 3, 2))
        seven = Board(7, (), tuple((at, at + 1) for at in range(6)))
        self.assertEqual(len(tied_swaps(seven, staying(7)[::-1])), 21)
        self.gives((), tied_swaps, Board(1, (), ()), (0,))


class Wrong(Telling):
    def test_names(self):
        self.takes(fewest_swaps, "turn")
        self.takes(swap_rows, "turn")
        self.takes(hub_swaps, "turn", "hub")
        self.takes(tied_swaps, "board", "turn")

    def test_wrong_turns(self):
        for wrong in wrong_turns():
            self.tells(InvalidTurn(wrong), fewest_swaps, wrong)
            self.tells(InvalidTurn(wrong), swap_rows, wrong)
            self.tells(InvalidTurn(wrong), hub_swaps, wrong, 0)
            self.tells(InvalidTurn(wrong), tied_swaps, LINE, wrong)

    def test_wrong_hubs(self):
        for wrong in NO_PLACES + [4, 5]:
            self.tells(InvalidPlace(wrong), hub_swaps, (1, 0, 3, 2), wrong)
        self.tells(InvalidPlace(1), hub_swaps, (0,), 1)

    def test_wrong_boards(self):
        for wrong in no_boards():
            self.tells(NotABoard(wrong), tied_swaps, wrong, (0,))

    def test_other_sizes_and_too_many(self):
        for size in (1, 3, 5, 8, 24):
            self.tells(OtherSize(), tied_swaps, LINE, staying(size))
        for size in (8, 9, 24):
            board = Board(size, (), ((0, 1),))
            self.tells(TooMany(7), tied_swaps, board, staying(size))
            self.tells(OtherSize(), tied_swaps, board, staying(4))

    def test_order_of_errors(self):
        self.tells_in_order(hub_swaps, ((1, 0), 0), (0, (1,), InvalidTurn((1,))), (1, 2, InvalidPlace(2)))
        wrong = (0, 0)
        self.tells_in_order(tied_swaps, (LINE, staying(4)), (0, 5, NotABoard(5)), (1, wrong, InvalidTurn(wrong)))
        great = Board(8, (), ())
        self.tells_in_order(tied_swaps, (great, staying(7)), (1, wrong, InvalidTurn(wrong)), (1, (0,), OtherSize()),
                            (1, staying(8), TooMany(7)))

    def test_nothing_is_changed(self):
        before = (dict(vars(LINE)), LINE.text)
        tied_swaps(LINE, (1, 2, 3, 0))
        self.assertEqual((dict(vars(LINE)), LINE.text), before)


if __name__ == "__main__":
    unittest.main()
