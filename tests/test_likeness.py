"""Tests of likenesses, and of turns that go together with a board, against trying all turns."""

import itertools
import math
import unittest

from seatbuttons.boards import Board
from seatbuttons.errors import InvalidPlace, InvalidTurn, NotABoard, OtherSize
from seatbuttons.likeness import count_together, goes_together, likeness, together_through
from seatbuttons.turns import turn_of

from tests.groups import apart, board_of, evens, little_cube, mathieu, pairs_kept, ring, ring_turned_over, six_places
from tests.groups import small_boards, whole
from tests.support import NO_PLACES, Telling, all_turns, no_boards, one_then, staying, wrong_turns
from tests.walks import Walking, steps_of

SIX = ring_turned_over(6)
PAIRS = board_of((1, 0, 3, 2))
MADE_FOR_LIKENESS = [SIX, PAIRS, Board(4, (), ()), Board(1, (), ()), board_of((1, 0, 3, 2, 4)), board_of((1, 2, 0, 4, 5, 3))]
MADE_FOR_LIKENESS += [board_of((1, 2, 0, 5, 3, 4)), board_of((1, 0, 3, 2, 5, 4), (0, 1, 3, 2, 4, 5)), ring(6)]
# A reach of four places wound twice about one of two, and once more.
MADE_FOR_LIKENESS += [board_of((1, 0, 3, 4, 5, 2)), board_of((1, 2, 3, 0, 5, 4), (2, 3, 0, 1, 4, 5))]
MADE_FOR_LIKENESS += [board_of((1, 0, 3, 2, 5, 4), (0, 1, 2, 3, 4, 5)), board_of(staying(3), staying(3))]


def some_boards():
    return small_boards()[::4] + six_places() + MADE_FOR_LIKENESS


def commuting(board):
    """All turns that go together with a board, of all there are."""
    buttons = [turn for _, turn in board.buttons]
    return [turn for turn in all_turns(board.size)
            if all(one_then(turn, button) == one_then(button, turn) for button in buttons)]


def reach_of(board, place):
    buttons = [turn for _, turn in board.buttons]
    return sorted(steps_of(place, lambda here: [turn[here] for turn in buttons]))


def likes_of(board, place, goal):
    """The likeness that leads the one place to the other, of all ways to lead one reach onto the other."""
    reach, onto = reach_of(board, place), reach_of(board, goal)
    if len(reach) != len(onto):
        return None
    for goals in itertools.permutations(onto):
        likes = dict(zip(reach, goals))
        if likes[place] == goal and all(likes[turn[here]] == turn[likes[here]]
                                        for _, turn in board.buttons for here in reach):
            return tuple(sorted(likes.items()))
    return None


class AllTurns(Telling, Walking):
    def test_likeness(self):
        for board in some_boards():
            for place, goal in itertools.product(range(board.size), repeat=2):
                self.gives(likes_of(board, place, goal), likeness, board, place, goal)

    def test_goes_together(self):
        for board in some_boards():
            found = commuting(board)
            for turn in all_turns(board.size)[::1 if board.size < 5 else 7] + found[::3]:
                self.gives(turn in found, goes_together, board, turn)

    def test_count_together(self):
        for board in some_boards():
            self.gives(len(commuting(board)), count_together, board)

    def test_together_through(self):
        for board in some_boards():
            found = commuting(board)
            for place, goal in itertools.product(range(board.size), repeat=2):
                turn = self.gives_any(together_through, board, place, goal)
                if turn is None:
                    self.assertFalse([other for other in found if other[place] == goal])
                else:
                    self.assertIs(type(turn), tuple)
                    self.assertIn(turn, found)
                    self.assertEqual(turn[place], goal)


class KnownBoards(Telling, Walking):
    def test_nothing_but_all_stay(self):
        for board in (whole(24), evens(24), mathieu(), apart(5, 19), apart(3, 4, 17)):
            self.gives(1, count_together, board)
            self.gives(None, together_through, board, 0, 23)
            self.gives(None, likeness, board, 23, 0)
            self.gives(staying(24), together_through, board, 3, 3)
            self.gives(True, goes_together, board, staying(24))
            self.gives(False, goes_together, board, turn_of(24, ((0, 1),)))
        self.gives(2, count_together, pairs_kept(12))
        self.gives(3, count_together, little_cube())

    def test_rings(self):
        self.gives(24, count_together, ring(24))
        self.gives(2, count_together, ring_turned_over(24))
        self.gives(1, count_together, ring_turned_over(23))
        for goal in range(24):
            told = tuple((place, (place + goal - 5) % 24) for place in range(24))
            self.gives(told, likeness, ring(24), 5, goal)
            self.gives(tuple(like for _, like in told), together_through, ring(24), 5, goal)
        for goal in range(24):
            is_like = likeness(ring_turned_over(24), 5, goal) is not None
            self.assertEqual(is_like, together_through(ring_turned_over(24), 5, goal) is not None)
            self.assertEqual(is_like, goal in (5, 17))

    def test_no_buttons(self):
        for board in (Board(24, (), ()), board_of(staying(24)), Board(24, (), ((0, 1), (3, 20)))):
            self.gives(math.factorial(24), count_together, board)
            self.gives(((3, 7),), likeness, board, 3, 7)
            self.gives(True, goes_together, board, staying(24)[::-1])
            self.assertEqual(self.gives_any(together_through, board, 3, 7)[3], 7)

    def test_many_reaches(self):
        swaps = board_of(turn_of(24, tuple((at, at + 1) for at in range(0, 24, 2))))
        self.gives(2 ** 12 * math.factorial(12), count_together, swaps)
        threes = board_of(turn_of(24, tuple((at, at + 1, at + 2) for at in range(0, 24, 3))))
        self.gives(3 ** 8 * math.factorial(8), count_together, threes)
        self.gives(((6, 23), (7, 21), (8, 22)), likeness, threes, 6, 23)
        mixed = board_of(turn_of(24, tuple((at, at + 1) for at in range(0, 12, 2)) + ((12, 13, 14), (15, 16, 17))))
        self.gives(2 ** 6 * math.factorial(6) * 3 ** 2 * 2 * math.factorial(6), count_together, mixed)
        self.gives(None, likeness, mixed, 0, 12)
        self.gives(None, together_through, mixed, 23, 0)
        turn = self.gives_any(together_through, mixed, 12, 16)
        self.gives(True, goes_together, mixed, turn)
        self.assertEqual(turn[12], 16)

    def test_a_reach_that_is_wound_about_another_one(self):
        board = MADE_FOR_LIKENESS[9]
        self.gives(None, likeness, board, 2, 0)
        self.gives(None, likeness, board, 0, 2)
        self.gives(((2, 4), (3, 5), (4, 2), (5, 3)), likeness, board, 2, 4)
        self.gives(2 * 4, count_together, board)

    def test_reaches_that_are_alike_by_another_button_only(self):
        board = board_of((1, 0, 2, 3), (0, 1, 3, 2))
        self.gives(None, likeness, board, 0, 2)
        self.gives(((2, 3), (3, 2)), likeness, board, 2, 3)
        self.gives(4, count_together, board)


WITH_GOAL = (likeness, together_through)


class Wrong(Telling):
    def test_names(self):
        self.takes(goes_together, "board", "turn")
        self.takes(count_together, "board")
        for call in WITH_GOAL:
            self.takes(call, "board", "place", "goal")

    def test_no_boards(self):
        for wrong in no_boards():
            self.tells(NotABoard(wrong), goes_together, wrong, (0,))
            self.tells(NotABoard(wrong), count_together, wrong)
            for call in WITH_GOAL:
                self.tells(NotABoard(wrong), call, wrong, 0, 0)

    def test_wrong_places(self):
        for call in WITH_GOAL:
            for wrong in NO_PLACES + [6, 7]:
                self.tells(InvalidPlace(wrong), call, SIX, wrong, 0)
                self.tells(InvalidPlace(wrong), call, SIX, 0, wrong)

    def test_wrong_turns(self):
        for wrong in wrong_turns():
            self.tells(InvalidTurn(wrong), goes_together, SIX, wrong)
        for size in (1, 5, 7, 24):
            self.tells(OtherSize(), goes_together, SIX, staying(size))

    def test_order_of_errors(self):
        board, no_turn = (0, 6, NotABoard(6)), (0, 0)
        for call in WITH_GOAL:
            self.tells_in_order(call, (SIX, 0, 0), board, (1, 6, InvalidPlace(6)), (2, -1, InvalidPlace(-1)))
        self.tells_in_order(goes_together, (SIX, staying(6)), board, (1, no_turn, InvalidTurn(no_turn)), (1, (0,), OtherSize()))

    def test_the_board_is_not_changed(self):
        before = (dict(vars(SIX)), SIX.text)
        likeness(SIX, 0, 3)
        together_through(SIX, 0, 3)
        goes_together(SIX, staying(6))
        count_together(SIX)
        self.assertEqual((dict(vars(SIX)), SIX.text), before)


if __name__ == "__main__":
    unittest.main()
