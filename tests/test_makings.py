"""Tests of makings: making, made and row_made of seatbuttons.chains."""

import itertools
import math
import random
import unittest

from seatbuttons.boards import Board
from seatbuttons.chains import made, making, member_at, order, row_made
from seatbuttons.errors import InvalidMaking, InvalidTurn, NotABoard, NotInside, OtherSize, TooMany
from seatbuttons.presses import pressed

from tests.groups import apart, board_of, evens, little_cube, mathieu, pairs_kept, ring, ring_turned_over, six_places
from tests.groups import small_boards, turns_of, whole
from tests.support import NO_VALUES, Telling, all_turns, led_back, nested, no_boards, one_then, staying, wrong_turns

SQUARE = Board(4, (("f", (1, 0, 3, 2)), ("r", (1, 2, 3, 0))), ())

# None of these is a step at the index 2 of a making of the square.
NO_STEPS = [value for value in NO_VALUES if value is not None] + ["x", "R", "rr", "tie", "r1", -1, 2, 3, 24, 10 ** 30]
NO_STEPS += [(), (0,), (0, 1, 1), [0, 1], (0, 2), (2, 0), (-1, 0), (0, -1), (None, 0), (0, None), ("r", "f"), ("r", 0)]
NO_STEPS += [(True, 0), (0, False), (0, 10 ** 30), ((0, 1), 0), (0, (1,)), ("r", 1), nested(20), ("r",), (0, "r"), b"r"]
NO_STEPS += [(value, 0) for value in NO_VALUES] + [(1, value) for value in NO_VALUES]


def turns_made(board, steps):
    """The turns of all steps, as the document words it."""
    turns = []
    for step in steps:
        if step is None:
            turns.append(staying(board.size))
        elif step in board.names:
            turns.append(board.turn(step))
        elif isinstance(step, int):
            turns.append(led_back(turns[step]))
        else:
            turns.append(one_then(turns[step[0]], turns[step[1]]))
    return turns


def rows_made(steps):
    """The rows of all steps, as the document words it."""
    rows = []
    for step in steps:
        if step is None:
            rows.append(())
        elif isinstance(step, str):
            rows.append(((step, 1),))
        elif isinstance(step, int):
            rows.append(tuple((name, -number) for name, number in reversed(rows[step])))
        else:
            rows.append(rows[step[0]] + rows[step[1]])
    return rows


def all_makings(board, most):
    """All makings of up to so many steps."""
    makings, latest = [], [()]
    for index in range(most):
        steps = [None, *board.names, *range(index), *itertools.product(range(index), repeat=2)]
        latest = [(*making, step) for making in latest for step in steps]
        makings += latest
    return makings


def some_makings(board, many, length):
    """Makings that are the same in each run."""
    chosen = random.Random(7)
    for _ in range(many):
        steps = [board.names[0]]
        while len(steps) < length:
            pair = (chosen.randrange(len(steps)), chosen.randrange(len(steps)))
            steps.append(chosen.choice([None, chosen.choice(board.names), pair[0], pair, pair]))
        yield tuple(steps)


class Made(Telling):
    def test_all_short_makings(self):
        for steps in all_makings(SQUARE, 3):
            self.assertEqual(made(SQUARE, steps), turns_made(SQUARE, steps)[-1], steps)
            self.assertEqual(row_made(SQUARE, steps), rows_made(steps)[-1], steps)

    def test_long_makings(self):
        for steps in some_makings(SQUARE, 60, 12):
            self.gives(turns_made(SQUARE, steps)[-1], made, SQUARE, steps)
            row = rows_made(steps)[-1]
            if len(row) <= 2000:
                self.gives(row, row_made, SQUARE, steps)
                self.assertEqual(pressed(SQUARE, row), made(SQUARE, steps))
            else:
                self.tells(TooMany(2000), row_made, SQUARE, steps)

    def test_each_form_of_step(self):
        self.gives((0, 1, 2, 3), made, SQUARE, (None,))
        self.gives((1, 2, 3, 0), made, SQUARE, ("r",))
        self.gives((3, 0, 1, 2), made, SQUARE, ("r", 0))
        self.gives((0, 3, 2, 1), made, SQUARE, ("r", "f", (0, 1)))
        self.gives((2, 1, 0, 3), made, SQUARE, ("r", "f", (1, 0)))
        self.gives((2, 3, 0, 1), made, SQUARE, ("r", (0, 0)))
        self.gives((1, 0, 3, 2), made, SQUARE, ("r", None, "f"))
        self.gives((0, 1, 2, 3), made, SQUARE, ("r", 0, (0, 1)))
        self.gives((0,), made, Board(1, (), ()), (None, 0, (0, 1), 2))
        self.gives((), row_made, Board(1, (), ()), (None, 0, (0, 1), 2))

    def test_rows_of_each_form_of_step(self):
        self.gives((), row_made, SQUARE, (None,))
        self.gives((("r", 1),), row_made, SQUARE, ("r",))
        self.gives((("r", -1),), row_made, SQUARE, ("r", 0))
        self.gives((("r", 1),), row_made, SQUARE, ("r", 0, 1))
        self.gives((("r", 1), ("f", 1)), row_made, SQUARE, ("r", "f", (0, 1)))
        self.gives((("f", -1), ("r", -1)), row_made, SQUARE, ("r", "f", (0, 1), 2))
        self.gives((("r", 1), ("r", 1)), row_made, SQUARE, ("r", (0, 0)))
        self.gives((("r", 1), ("r", -1)), row_made, SQUARE, ("r", 0, (0, 1)))
        self.gives((("f", 1),), row_made, SQUARE, ("r", None, "f"))
        self.gives((("r", 1),), row_made, SQUARE, ("r", None, (0, 1), (1, 2), (3, 1)))
        self.gives((("r", -1),), row_made, SQUARE, (None, "r", (0, 1), (2, 0), 3))

    def test_just_2000_presses(self):
        steps = ["r", "f", (0, 1)]
        for factor in (5, 5, 5, 2, 2, 2):
            last = len(steps) - 1
            steps.append((last, last))
            for _ in range(factor - 2):
                steps.append((len(steps) - 1, last))
        row = (("r", 1), ("f", 1)) * 1000
        self.gives(row, row_made, SQUARE, tuple(steps))
        back = tuple((name, -1) for name, _ in reversed(row))
        self.gives(back, row_made, SQUARE, (*steps, len(steps) - 1))
        self.gives(row, row_made, SQUARE, (*steps, None, (len(steps) - 1, len(steps))))
        self.tells(TooMany(2000), row_made, SQUARE, (*steps, (len(steps) - 1, 0)))
        self.tells(TooMany(2000), row_made, SQUARE, (*steps, (1, len(steps) - 1), len(steps)))
        self.gives((("r", 1),), row_made, SQUARE, (*steps, (0, len(steps) - 1), "r"))

    def test_rows_far_too_long(self):
        doubled = ("r", *[(at, at) for at in range(19999)])
        self.gives((0, 1, 2, 3), made, SQUARE, doubled)
        self.tells(TooMany(2000), row_made, SQUARE, doubled)
        self.gives((("r", 1),) * 1024, row_made, SQUARE, doubled[:11])
        self.tells(TooMany(2000), row_made, SQUARE, doubled[:12])

    def test_makings_of_20000_steps_and_few_presses(self):
        back = ("r", *range(19999))
        self.gives((3, 0, 1, 2), made, SQUARE, back)
        self.gives((("r", -1),), row_made, SQUARE, back)
        empty = (None, *[(at, at) for at in range(19999)])
        self.gives((), row_made, SQUARE, empty)
        beside = ("r", None, *[(at, 1) if at % 2 else (1, at) for at in [0, *range(2, 19999)]])
        self.gives((("r", 1),), row_made, SQUARE, beside)
        wide = ("r", (0, 0), *[(1, 1), (2, 2), (3, 3), (4, 4), (5, 5), (6, 6), (7, 7), (8, 8), (9, 9)], *range(10, 19998))
        self.gives((("r", -1 if len(wide) % 2 == 0 else 1),) * 1024, row_made, SQUARE, wide[:20000])


class Making(Telling):
    def check_making(self, board, turn):
        steps = making(board, turn)
        self.assertIs(type(steps), tuple)
        self.assertLessEqual(len(steps), 20000)
        self.gives(turn, made, board, steps)
        self.assertEqual(turns_made(board, steps)[-1], turn)
        self.assertEqual(making(turn=turn, board=board), steps)

    def test_all_turns_of_small_boards(self):
        for board in small_boards()[::4] + six_places():
            for turn in turns_of(board)[::1 if board.size < 5 else 7]:
                self.check_making(board, turn)

    def test_turns_of_many_places(self):
        boards = [whole(24), evens(24), ring(24), ring_turned_over(24), pairs_kept(12), apart(6, 6, 6, 6), apart(2, 3, 7, 12)]
        for board in boards + [little_cube(), mathieu(), board_of(*[whole(24).turn("b")] * 8)]:
            last = order(board) - 1
            for number in sorted({0, 1, last // 3, last // 2, last - 1, last}):
                self.check_making(board, member_at(board, number))

    def test_eight_buttons_of_24_places(self):
        chosen = random.Random(11)
        for _ in range(3):
            turns = [tuple(chosen.sample(range(24), 24)) for _ in range(8)]
            board = board_of(*turns)
            turn = turns[0] if order(board) < math.factorial(24) else tuple(chosen.sample(range(24), 24))
            self.check_making(board, turn)

    def test_all_stay(self):
        for board in (Board(1, (), ()), Board(24, (), ()), SQUARE, whole(24), board_of(staying(5))):
            self.check_making(board, staying(board.size))

    def test_not_inside(self):
        self.tells(NotInside(2), making, SQUARE, (1, 0, 2, 3))
        self.tells(NotInside(1), making, SQUARE, (0, 2, 1, 3))
        self.tells(NotInside(0), making, Board(3, (), ()), (1, 0, 2))
        self.tells(NotInside(0), making, board_of((0, 2, 1)), (1, 0, 2))
        turns = turns_of(evens(5))
        for turn in all_turns(5):
            if turn not in turns:
                self.assertRaises(NotInside, making, evens(5), turn)


class Wrong(Telling):
    def test_names(self):
        self.takes(making, "board", "turn")
        self.takes(made, "board", "steps")
        self.takes(row_made, "board", "steps")

    def test_no_tuples(self):
        for wrong in NO_VALUES + [(), 0, "r", ["r"], {"r": 1}, {"r"}]:
            self.tells(InvalidMaking(None), made, SQUARE, wrong)
            self.tells(InvalidMaking(None), row_made, SQUARE, wrong)

    def test_no_steps(self):
        for wrong in NO_STEPS:
            for call in (made, row_made):
                self.tells(InvalidMaking(2), call, SQUARE, ("r", None, wrong))
                self.tells(InvalidMaking(2), call, SQUARE, ("r", None, wrong, "x", "r"))

    def test_steps_before(self):
        for call in (made, row_made):
            for first in (0, (0, 0), 1, (0, 1), "a", -1, True):
                self.tells(InvalidMaking(0), call, SQUARE, (first,))
                self.tells(InvalidMaking(0), call, SQUARE, (first, "r"))
            self.tells(InvalidMaking(1), call, SQUARE, ("r", 1))
            self.tells(InvalidMaking(1), call, SQUARE, ("r", (0, 1)))
            self.tells(InvalidMaking(1), call, SQUARE, ("r", (1, 0)))
            self.tells(InvalidMaking(0), call, Board(1, (), ()), ("a",))

    def test_20001_steps(self):
        for call in (made, row_made):
            call(SQUARE, ("r",) * 20000)
            self.tells(InvalidMaking(20000), call, SQUARE, ("r",) * 20001)
            self.tells(InvalidMaking(20000), call, SQUARE, ("r",) * 20000 + ("x", "y"))
            self.tells(InvalidMaking(19999), call, SQUARE, ("r",) * 19999 + ("x", "r"))
            self.tells(InvalidMaking(3), call, SQUARE, ("r",) * 3 + (4,) + ("r",) * 20000)

    def test_wrong_boards_and_turns(self):
        for wrong in no_boards():
            self.tells(NotABoard(wrong), making, wrong, (1, 2, 3, 0))
            self.tells(NotABoard(wrong), made, wrong, ("r",))
            self.tells(NotABoard(wrong), row_made, wrong, ("r",))
        for wrong in wrong_turns():
            self.tells(InvalidTurn(wrong), making, SQUARE, wrong)

    def test_order_of_errors(self):
        board, no_turn = (0, None, NotABoard(None)), (1, 1, 2, 3)
        self.tells_in_order(
            making, (SQUARE, (1, 2, 3, 0)), board, (1, no_turn, InvalidTurn(no_turn)), (1, (1, 0), OtherSize()),
            (1, (1, 0, 2, 3), NotInside(2)),
        )
        self.tells_in_order(made, (SQUARE, ("r",)), board, (1, ("r", "x"), InvalidMaking(1)))
        long = ("r", *[(at, at) for at in range(11)])
        self.tells_in_order(
            row_made, (SQUARE, ("r",)), board, (1, ("r", 1), InvalidMaking(1)), (1, long, TooMany(2000)),
        )


if __name__ == "__main__":
    unittest.main()
