"""Tests of seatbuttons.places against going on press by press and through all turns, and on known boards."""

import itertools
import math
import unittest
from unittest import mock

from seatbuttons.boards import Board
from seatbuttons.errors import InvalidNumber, InvalidPlace, InvalidPlaces, NotABoard, TooMany
from seatbuttons.places import count_reaches, distance, distance_leading, fold, reaches, row_leading, row_to
from seatbuttons.presses import pressed
from seatbuttons.turns import turn_of

from tests.groups import apart, board_of, evens, little_cube, mathieu, pairs_kept, ring, ring_turned_over, six_places
from tests.groups import small_boards, turns_of, whole
from tests.support import NO_INTEGERS, NO_PLACES, NO_VALUES, Telling, nested, no_boards, staying
from tests.walks import Walking, singles, steps_of

TWO = board_of((1, 0, 2, 3, 4), (0, 1, 3, 4, 2))
ALL_STAY = Board(4, tuple((name, staying(4)) for name in "abcdefgh"), ((0, 1), (1, 2), (2, 3)))


def led(places, turn):
    return tuple(turn[place] for place in places)


def fewest_leading(board, places):
    """By how few single presses these places are led to others, for all others."""
    turns = [turn for _, turn in singles(board)]
    return steps_of(places, lambda here: [led(here, turn) for turn in turns])


def some_boards():
    return small_boards()[::3] + six_places() + [ALL_STAY, TWO, ring(6), Board(5, (), ())]


class Reaches(Telling):
    def test_against_all_turns(self):
        for board in small_boards() + six_places():
            turns = turns_of(board)
            lots = {tuple(sorted({turn[place] for turn in turns})) for place in range(board.size)}
            self.gives(tuple(sorted(lots)), reaches, board)

    def test_known_boards(self):
        for board in (whole(24), evens(24), ring(24), ring_turned_over(24), pairs_kept(12), little_cube(), mathieu()):
            self.gives((staying(24),), reaches, board)
        self.gives(tuple((place,) for place in range(24)), reaches, Board(24, (), ()))
        self.gives(((0, 1, 2, 3, 4), tuple(range(5, 17)), tuple(range(17, 24))), reaches, apart(5, 12, 7))
        self.gives(((0, 2, 4), (1,), (3, 5)), reaches, board_of(turn_of(6, ((0, 4, 2),)), turn_of(6, ((5, 3),))))
        self.gives(((0,),), reaches, Board(1, (), ()))

    def test_ties_and_buttons_with_which_all_stay_lead_nowhere(self):
        self.gives(((0,), (1,), (2,), (3,)), reaches, ALL_STAY)


class Distances(Telling, Walking):
    def test_one_place(self):
        for board in some_boards():
            for place in range(board.size):
                fewest = fewest_leading(board, (place,))
                for goal in range(board.size):
                    many = fewest.get((goal,))
                    self.gives(many, distance, board, place, goal)
                    self.check_row(self.gives_any(row_to, board, place, goal), board, (place,), (goal,), many)

    def check_row(self, row, board, places, goals, many):
        """The row has so many single presses and leads there; None if nothing does."""
        if many is None:
            self.assertIsNone(row)
        else:
            self.is_single_row(row, board)
            self.assertEqual(len(row), many)
            self.assertEqual(led(places, pressed(board, row)), goals)

    def test_several_places(self):
        for board in some_boards()[::2]:
            for many in range(1, min(3, board.size) + 1):
                for places in list(itertools.permutations(range(board.size), many))[::11]:
                    fewest = fewest_leading(board, places)
                    for goals in list(itertools.permutations(range(board.size), many))[::1 if board.size < 5 else 7]:
                        told = fewest.get(goals)
                        self.gives(told, distance_leading, board, places, goals)
                        row = self.gives_any(row_leading, board, places, goals)
                        self.check_row(row, board, places, goals, told)

    def test_from_a_place_to_itself(self):
        for board in (TWO, ALL_STAY, whole(24), Board(24, (), ()), Board(1, (), ())):
            for place in (0, board.size - 1):
                self.gives(0, distance, board, place, place)
                self.gives((), row_to, board, place, place)
                self.gives(0, distance_leading, board, (place,), (place,))
                self.gives((), row_leading, board, (place,), (place,))
        self.gives(0, distance_leading, TWO, (4, 0, 2), (4, 0, 2))
        self.gives((), row_leading, TWO, (4, 0, 2), (4, 0, 2))

    def test_where_nothing_leads(self):
        self.gives(None, distance, TWO, 0, 2)
        self.gives(None, row_to, TWO, 4, 1)
        self.gives(None, distance_leading, TWO, (0, 2), (1, 0))
        self.gives(None, row_leading, TWO, (2, 3, 4), (3, 2, 4))
        self.gives(None, distance, ALL_STAY, 0, 1)
        self.gives(None, row_leading, ring(24), (0, 1), (0, 2))
        self.gives(None, distance_leading, pairs_kept(12), (0, 1), (0, 2))

    def test_places_that_go_apart_and_together(self):
        self.gives(1, distance, TWO, 0, 1)
        self.gives((("a", 1),), row_leading, TWO, (0, 3), (1, 3))
        self.gives(2, distance_leading, TWO, (0, 3), (1, 4))
        self.gives(1, distance_leading, TWO, (3, 4), (4, 2))
        self.gives(2, distance_leading, TWO, (1, 2, 3), (0, 3, 4))

    def test_rings(self):
        for size in (7, 8, 24):
            for place, goal in itertools.product(range(0, size, 3), range(size)):
                steps = (goal - place) % size
                self.gives(min(steps, size - steps), distance, ring(size), place, goal)
                for other in (place + 1) % size, (place + 5) % size:
                    goals = (goal, (goal + other - place) % size)
                    told = min(steps, size - steps)
                    self.gives(told, distance_leading, ring(size), (place, other), goals)
        self.gives((("a", -1),) * 5, row_to, ring(24), 2, 21)
        self.gives((("a", 1),) * 5, row_leading, ring(24), (21, 0, 5), (2, 5, 10))

    def test_great_boards(self):
        places = (0, 12, 23)
        for board in (whole(24), evens(24), mathieu(), ring_turned_over(24)):
            fewest = fewest_leading(board, places)
            for goals in ((23, 0, 11), (1, 13, 0), (0, 12, 22)):
                self.gives(fewest.get(goals), distance_leading, board, places, goals)
                row = self.gives_any(row_leading, board, places, goals)
                self.check_row(row, board, places, goals, fewest.get(goals))
        self.assertEqual(len(fewest_leading(mathieu(), places)), 24 * 23 * 22)

    def test_long_rows(self):
        # Three rings of unlike lengths that have no common divisor: 252 presses lead all of them halfway.
        board = board_of(turn_of(24, (tuple(range(7)), tuple(range(7, 15)), tuple(range(15, 24)))))
        goals = (252 % 7, 7 + 252 % 8, 15 + 252 % 9)
        self.gives(252, distance_leading, board, (0, 7, 15), goals)
        row = self.gives_any(row_leading, board, (0, 7, 15), goals)
        self.is_single_row(row, board)
        self.assertEqual(len(row), 252)

    def test_more_presses_than_a_row_has(self):
        with mock.patch("seatbuttons.searching.MOST_PRESSES", 4):
            self.gives((("a", 1),) * 4, row_leading, ring(24), (0, 1), (4, 5))
            self.tells(TooMany(4), row_leading, ring(24), (0, 1), (5, 6))
            self.gives(5, distance_leading, ring(24), (0, 1), (5, 6))
            self.gives(None, row_leading, ring(24), (0, 1), (5, 7))


class Lots(Telling):
    def test_against_all_turns(self):
        for board in small_boards()[::2] + six_places() + [ALL_STAY, TWO]:
            turns = turns_of(board)
            for number in (1, 2, 3):
                lots = {min(led(places, turn) for turn in turns)
                        for places in itertools.permutations(range(board.size), number)}
                self.gives(len(lots), count_reaches, board, number)

    def test_fewer_places(self):
        for number in (2, 3):
            self.gives(0, count_reaches, Board(1, (), ()), number)
            self.gives(0, count_reaches, board_of((0,)), number)
        self.gives(0, count_reaches, board_of((1, 0)), 3)
        self.gives(1, count_reaches, board_of((1, 0)), 2)
        self.gives(6, count_reaches, Board(3, (), ()), 3)

    def test_known_boards(self):
        for board, told in ((whole(24), (1, 1, 1)), (evens(24), (1, 1, 1)), (mathieu(), (1, 1, 1)),
                            (ring(24), (1, 23, 23 * 22)), (Board(24, (), ()), (24, 24 * 23, 24 * 23 * 22)),
                            (ring_turned_over(24), (1, 12, 23 * 22 // 2)), (pairs_kept(12), (1, 2, 4))):
            for number in (1, 2, 3):
                self.gives(told[number - 1], count_reaches, board, number)
        for sizes in ((2, 2), (2, 22), (6, 6, 6, 6), (2, 3, 4, 5)):
            for number in (1, 2, 3):
                lots = itertools.product(range(len(sizes)), repeat=number)
                told = sum(all(lot.count(at) <= size for at, size in enumerate(sizes)) for lot in lots)
                self.gives(told, count_reaches, apart(*sizes), number)


class Folds(Telling):
    def test_against_all_turns(self):
        for board in small_boards() + six_places():
            turns = turns_of(board)
            told = [many for many in range(1, board.size + 1)
                    if len({turn[:many] for turn in turns}) == math.perm(board.size, many)]
            self.gives(max(told, default=0), fold, board)

    def test_known_boards(self):
        for size in (2, 3, 4, 9, 24):
            self.gives(size, fold, whole(size))
            self.gives(0, fold, Board(size, (), ()))
        for size in (4, 5, 24):
            self.gives(size - 2, fold, evens(size))
        self.gives(5, fold, mathieu())
        self.gives(1, fold, ring(3))
        self.gives(3, fold, ring_turned_over(3))
        for board in (ring(24), ring_turned_over(24), pairs_kept(12), little_cube()):
            self.gives(1, fold, board)
        for board in (apart(12, 12), apart(2, 22), ALL_STAY):
            self.gives(0, fold, board)

    def test_one_and_two_places(self):
        self.gives(1, fold, Board(1, (), ()))
        self.gives(1, fold, board_of((0,)))
        self.gives(2, fold, board_of((1, 0)))
        self.gives(0, fold, board_of((0, 1)))

    def test_a_place_that_stays_at_an_end(self):
        self.gives(0, fold, board_of((1, 2, 0, 3), (1, 0, 2, 3)))
        self.gives(0, fold, board_of((0, 2, 3, 1), (0, 2, 1, 3)))


WITH_PLACES = (distance_leading, row_leading)
WITH_PLACE = (distance, row_to)
SIX = ring_turned_over(6)


class Wrong(Telling):
    def test_names(self):
        self.takes(reaches, "board")
        self.takes(fold, "board")
        self.takes(count_reaches, "board", "number")
        for call in WITH_PLACE:
            self.takes(call, "board", "place", "goal")
        for call in WITH_PLACES:
            self.takes(call, "board", "places", "goals")

    def test_no_boards(self):
        for wrong in no_boards():
            self.tells(NotABoard(wrong), reaches, wrong)
            self.tells(NotABoard(wrong), fold, wrong)
            self.tells(NotABoard(wrong), count_reaches, wrong, 1)
            for call in WITH_PLACE:
                self.tells(NotABoard(wrong), call, wrong, 0, 0)
            for call in WITH_PLACES:
                self.tells(NotABoard(wrong), call, wrong, (0,), (0,))

    def test_wrong_places(self):
        for call in WITH_PLACE:
            for wrong in NO_PLACES + [6, 7, 23]:
                self.tells(InvalidPlace(wrong), call, SIX, wrong, 0)
                self.tells(InvalidPlace(wrong), call, SIX, 0, wrong)

    def test_wrong_numbers(self):
        for wrong in NO_INTEGERS + [0, -1, 4, 10 ** 30, -10 ** 30]:
            self.tells(InvalidNumber(wrong), count_reaches, SIX, wrong)

    def test_wrong_tuples(self):
        for call in WITH_PLACES:
            for wrong in NO_VALUES + [0, [0], [0, 1], "01", {0: 1}, ()]:
                self.tells(InvalidPlaces(None), call, SIX, wrong, (0,))
                self.tells(InvalidPlaces(None), call, SIX, (0,), wrong)
            for wrong in NO_PLACES + [6, 7]:
                self.tells(InvalidPlaces(0), call, SIX, (wrong,), (0,))
                self.tells(InvalidPlaces(0), call, SIX, (0,), (wrong,))
                self.tells(InvalidPlaces(2), call, SIX, (3, 0, wrong), (0, 1, 2))
                self.tells(InvalidPlaces(1), call, SIX, (0, 1, 2), (3, wrong, wrong))
            self.tells(InvalidPlaces(1), call, SIX, (0, 0), (0, 1))
            self.tells(InvalidPlaces(2), call, SIX, (0, 1, 2), (0, 1, 0))
            self.tells(InvalidPlaces(0), call, SIX, nested(20), (0,))

    def test_four_places(self):
        for call in WITH_PLACES:
            self.tells(InvalidPlaces(3), call, SIX, (0, 1, 2, 3), (0, 1, 2, 3))
            self.tells(InvalidPlaces(3), call, SIX, (0, 1, 2, None), (0, 1, 2))
            self.tells(InvalidPlaces(3), call, SIX, (0, 1, 2, 2, 9), (0, 1, 2))
            self.tells(InvalidPlaces(2), call, SIX, (0, 1, 1, 3), (0, 1, 2))
            self.tells(InvalidPlaces(0), call, SIX, (6, 1, 1, 3), (0, 1, 2))
            self.tells(InvalidPlaces(2), call, Board(2, (), ()), (0, 1, 2), (0, 1, 2))

    def test_another_number_of_goals(self):
        for call in WITH_PLACES:
            self.tells(InvalidPlaces(None), call, SIX, (0, 1), (0,))
            self.tells(InvalidPlaces(None), call, SIX, (0, 1), (0, 1, 2))
            # The number is asked ahead of the elements.
            self.tells(InvalidPlaces(None), call, SIX, (0, 1), (None,))
            self.tells(InvalidPlaces(None), call, SIX, (0, 1), (0, 0, 9))
            self.tells(InvalidPlaces(None), call, SIX, (0, 1, 2), (0, 1, 2, 3))

    def test_order_of_errors(self):
        board = (0, None, NotABoard(None))
        for call in WITH_PLACE:
            self.tells_in_order(call, (SIX, 0, 0), board, (1, 6, InvalidPlace(6)), (2, True, InvalidPlace(True)))
        for call in WITH_PLACES:
            self.tells_in_order(call, (SIX, (0, 1), (0, 1)), board, (1, (0, 6), InvalidPlaces(1)), (2, (6, 1), InvalidPlaces(0)))
            self.tells_in_order(call, (SIX, (0, 1), (0, 1)), board, (1, (0, 6), InvalidPlaces(1)), (2, (6,), InvalidPlaces(None)))
        self.tells_in_order(count_reaches, (SIX, 1), board, (1, 4, InvalidNumber(4)))

    def test_the_board_is_not_changed(self):
        before = (dict(vars(SIX)), SIX.text)
        for call, told in ((reaches, ()), (fold, ()), (count_reaches, (3,)), (distance, (0, 3)), (row_to, (0, 3)),
                           (distance_leading, ((0, 1), (5, 4))), (row_leading, ((0, 1), (5, 4)))):
            call(SIX, *told)
        self.assertEqual((dict(vars(SIX)), SIX.text), before)


if __name__ == "__main__":
    unittest.main()
