"""Tests of seatbuttons.classes against going through all turns of a board, and on known groups."""

import collections
import math
import unittest

from seatbuttons.boards import Board
from seatbuttons.classes import centre, class_of, count_classes, is_even_board, kinds_in
from seatbuttons.errors import InvalidTurn, NotABoard, NotInside, OtherSize, TooMany
from seatbuttons.kinds import all_kinds, how_many_turns
from seatbuttons.turns import is_even, kind_of, turn_of

from tests.groups import apart, board_of, evens, just_20000, little_cube, mathieu, pairs_kept, ring, ring_turned_over
from tests.groups import six_places, small_boards, turns_of, whole
from tests.support import Telling, all_turns, led_back, no_boards, one_then, staying, wrong_turns


def renamed(turn, by):
    """A turn back, then the other one, then the turn."""
    return one_then(one_then(led_back(by), turn), by)


def some_boards():
    return small_boards()[::2] + six_places() + [Board(5, (), ()), board_of(staying(4), staying(4)), ring(6)]


class AllTurns(Telling):
    def test_kinds(self):
        for board in some_boards():
            counts = collections.Counter(kind_of(turn) for turn in turns_of(board))
            self.gives(tuple(sorted(counts.items(), reverse=True)), kinds_in, board)

    def test_classes(self):
        for board in some_boards():
            turns = turns_of(board)
            classes = {tuple(sorted({renamed(turn, by) for by in turns})) for turn in turns[::1 if len(turns) < 100 else 5]}
            for alike in classes:
                for turn in alike[::3]:
                    self.gives(alike, class_of, board, turn)

    def test_how_many_classes(self):
        for board in some_boards():
            turns = turns_of(board)
            self.gives(len({min(renamed(turn, by) for by in turns) for turn in turns}), count_classes, board)

    def test_centre(self):
        for board in some_boards():
            turns = turns_of(board)
            told = [turn for turn in turns if all(one_then(turn, other) == one_then(other, turn) for other in turns)]
            self.gives(tuple(told), centre, board)

    def test_even_boards(self):
        for board in some_boards():
            self.gives(all(is_even(turn) for turn in turns_of(board)), is_even_board, board)


class KnownGroups(Telling):
    def test_all_turns(self):
        for size in (1, 2, 3, 5, 6, 7):
            board = whole(size) if size > 1 else Board(1, (), ())
            self.gives(tuple((kind, how_many_turns(kind)) for kind in all_kinds(size)), kinds_in, board)
            self.gives(len(all_kinds(size)), count_classes, board)
            self.gives((staying(size),) if size != 2 else ((0, 1), (1, 0)), centre, board)
        ones = class_of(whole(7), turn_of(7, ((0, 1, 2, 3, 4, 5, 6),)))
        self.assertEqual(list(ones), sorted(turn for turn in all_turns(7) if kind_of(turn) == (7,)))

    def test_even_turns(self):
        # In the even turns of five places the rings of five are two classes.
        self.gives(5, count_classes, evens(5))
        self.assertEqual(len(class_of(evens(5), (1, 2, 3, 4, 0))), 12)
        self.gives(4, count_classes, evens(4))
        self.gives(9, count_classes, evens(7))
        self.gives((staying(7),), centre, evens(7))

    def test_rings(self):
        for size in (3, 8, 23, 24):
            self.gives(size, count_classes, ring(size))
            self.gives(tuple(turns_of(ring(size))), centre, ring(size))
            told = size // 2 + 3 if size % 2 == 0 else (size + 3) // 2
            self.gives(told, count_classes, ring_turned_over(size))
            half = tuple((place + size // 2) % size for place in range(size))
            self.gives((staying(size), half) if size % 2 == 0 else (staying(size),), centre, ring_turned_over(size))
        self.gives(((1, 2, 3, 4, 0), (4, 0, 1, 2, 3)), class_of, ring_turned_over(5), (1, 2, 3, 4, 0))
        self.gives(((1, 2, 3, 4, 0),), class_of, ring(5), (1, 2, 3, 4, 0))

    def test_pairs(self):
        both = turn_of(10, tuple((at, at + 1) for at in range(0, 10, 2)))
        self.gives((staying(10), both), centre, pairs_kept(5))
        # Pairs of kinds, one of rings with and one of rings without a twist, five in all.
        self.gives(36, count_classes, pairs_kept(5))
        self.assertEqual(sum(many for _, many in kinds_in(pairs_kept(5))), 2 ** 5 * math.factorial(5))

    def test_no_buttons(self):
        for size in (1, 24):
            board = Board(size, (), ())
            self.gives((((1,) * size, 1),), kinds_in, board)
            self.gives((staying(size),), centre, board)
            self.gives((staying(size),), class_of, board, staying(size))
            self.gives(1, count_classes, board)
            self.gives(True, is_even_board, board)


class ManyTurns(Telling):
    def test_just_20000_turns(self):
        board = just_20000()
        kinds = kinds_in(board)
        self.assertEqual(sum(many for _, many in kinds), 20000)
        self.assertEqual(kinds[0], ((5, 5, 5, 5, 2), 256))
        self.assertEqual(kinds[-1], ((1,) * 22, 1))
        self.assertEqual(count_classes(board), 4 ** 4 * 2)
        self.assertEqual(centre(board), (staying(22), turn_of(22, ((20, 21),))))
        self.assertEqual(len(class_of(board, board.turn("b"))), 5)
        five = one_then(one_then(board.turn("b"), board.turn("d")), one_then(board.turn("f"), board.turn("h")))
        self.assertEqual(len(class_of(board, five)), 625)

    def test_more_than_20000_turns(self):
        for board in (evens(8), whole(8), whole(24), evens(24), mathieu(), little_cube(), pairs_kept(12), apart(5, 5, 3)):
            for call in (kinds_in, count_classes, centre):
                self.tells(TooMany(20000), call, board)
            self.tells(TooMany(20000), class_of, board, staying(board.size))

    def test_even_boards_have_no_bound(self):
        for board in (evens(24), mathieu(), ring(23), evens(8)):
            self.gives(True, is_even_board, board)
        for board in (whole(24), ring(24), little_cube(), apart(3, 21), board_of(staying(24), turn_of(24, ((3, 20),)))):
            self.gives(False, is_even_board, board)

    def test_not_inside_is_told_ahead_of_too_many(self):
        self.tells(NotInside(22), class_of, evens(24), turn_of(24, ((0, 1),)))
        self.tells(NotInside(0), class_of, apart(12, 12), turn_of(24, ((0, 12),)))
        self.tells(NotInside(3), class_of, apart(12, 12), turn_of(24, ((3, 12),)))
        self.tells(NotInside(1), class_of, pairs_kept(12), turn_of(24, ((1, 2),)))
        self.tells(NotInside(12), class_of, pairs_kept(12), turn_of(24, ((0, 1), (2, 4))))


ON_BOARDS = (kinds_in, count_classes, centre, is_even_board)
SQUARE = ring_turned_over(4)


class Wrong(Telling):
    def test_names(self):
        for call in ON_BOARDS:
            self.takes(call, "board")
        self.takes(class_of, "board", "turn")

    def test_no_boards(self):
        for wrong in no_boards():
            for call in ON_BOARDS:
                self.tells(NotABoard(wrong), call, wrong)
            self.tells(NotABoard(wrong), class_of, wrong, (1, 2, 3, 0))

    def test_wrong_turns(self):
        for wrong in wrong_turns():
            self.tells(InvalidTurn(wrong), class_of, SQUARE, wrong)
        for size in (1, 3, 5, 24):
            self.tells(OtherSize(), class_of, SQUARE, staying(size))

    def test_not_inside(self):
        self.tells(NotInside(1), class_of, SQUARE, (0, 2, 1, 3))
        self.tells(NotInside(2), class_of, SQUARE, (1, 0, 2, 3))
        self.tells(NotInside(0), class_of, Board(4, (), ()), (1, 0, 2, 3))

    def test_order_of_errors(self):
        board, no_turn, odd = evens(8), (0, 0), (1, 0) + staying(8)[2:]
        self.tells_in_order(class_of, (SQUARE, staying(4)), (0, None, NotABoard(None)), (1, no_turn, InvalidTurn(no_turn)),
                            (1, (0,), OtherSize()), (1, (0, 2, 1, 3), NotInside(1)))
        self.tells_in_order(class_of, (ring(8), staying(8)), (1, no_turn, InvalidTurn(no_turn)), (1, (0,), OtherSize()),
                            (0, board, TooMany(20000)))
        self.tells(NotInside(6), class_of, board, odd)
        self.tells(TooMany(20000), class_of, board, (1, 2, 0) + staying(8)[3:])

    def test_the_board_is_not_changed(self):
        before = (dict(vars(SQUARE)), SQUARE.text)
        for call in ON_BOARDS:
            call(SQUARE)
        class_of(SQUARE, (1, 2, 3, 0))
        self.assertEqual((dict(vars(SQUARE)), SQUARE.text), before)


if __name__ == "__main__":
    unittest.main()
