"""Tests of seatbuttons.fewest against going on single press by single press, and on known boards."""

import itertools
import math
import random
import unittest
from unittest import mock

from seatbuttons.boards import Board
from seatbuttons.errors import InvalidNames, InvalidNumber, InvalidTurn, NotABoard, NotInside, OtherSize, TooMany
from seatbuttons.fewest import counted_rows, farthest, fewest, first_row, layer, near, spread, told_cost
from seatbuttons.presses import pressed
from seatbuttons.turns import turn_of

from tests.groups import apart, board_of, evens, just_20000, mathieu, pairs_kept, ring, ring_turned_over, small_boards
from tests.groups import six_places, turns_of, whole
from tests.support import NO_INTEGERS, NO_VALUES, Telling, all_turns, led_back, nested, no_boards, one_then, staying
from tests.support import wrong_turns
from tests.walks import layers, singles, steps_of

SQUARE = Board(4, (("f", (1, 0, 3, 2)), ("r", (1, 2, 3, 0))), ())
# Buttons with one turn, with the turn back, with a turn that is its own way back, and with none.
MANY = Board(4, (("z", (1, 2, 3, 0)), ("b", (0, 1, 2, 3)), ("y", (1, 2, 3, 0)), ("a", (3, 0, 1, 2)),
                 ("c", (1, 0, 2, 3))), ())


def after_each(board):
    """What comes of a turn by one single press, as a function."""
    presses = [turn for _, turn in singles(board)]
    return lambda here: [one_then(here, press) for press in presses]


def layers_of(board):
    return layers(staying(board.size), after_each(board))


def some_boards():
    boards = small_boards()[::5] + [SQUARE, MANY, Board(1, (("a", (0,)),), ()), Board(5, (), ((0, 1),))]
    boards += [board_of((1, 2, 0, 4, 3), names="z"), board_of((1, 2, 3, 4, 0), (0, 2, 1, 3, 4), names=("zz", "az"))]
    return boards + [board_of((1, 0, 2), (0, 2, 1), (1, 2, 0), names=("c", "b", "a"))]


def first_of_all(board, turn, many):
    """The first row as the document puts it together, going through all tuples of so many single presses."""
    ordered = sorted(singles(board), key=lambda press: (press[0][0], -press[0][1]))
    for row in itertools.product(ordered, repeat=many):
        made = staying(board.size)
        for _, press in row:
            made = one_then(made, press)
        if made == turn:
            return put_together([press for press, _ in row])
    raise AssertionError("no such row")


def put_together(row):
    found = []
    for name, number in row:
        if found and found[-1][0] == name and (found[-1][1] > 0) == (number > 0):
            found[-1] = (name, found[-1][1] + number)
        else:
            found.append((name, number))
    return tuple(found)


def costs_of(board, names):
    """The least number of presses of these buttons in tuples of single presses that make each turn."""
    costs = {staying(board.size): 0}
    changed = True
    while changed:
        changed = False
        for here, cost in list(costs.items()):
            for (name, _), press in singles(board):
                there, more = one_then(here, press), cost + (name in names)
                if costs.get(there, more + 1) > more:
                    costs[there] = more
                    changed = True
    return costs


def counts_of(board, number):
    """How many tuples of so many single presses make each turn."""
    counts = {staying(board.size): 1}
    for _ in range(number):
        later = {}
        for here, many in counts.items():
            for _, press in singles(board):
                there = one_then(here, press)
                later[there] = later.get(there, 0) + many
        counts = later
    return counts


class Layers(Telling):
    def test_layers(self):
        for board in some_boards():
            found = layers_of(board)
            self.gives(tuple(len(some) for some in found), spread, board)
            self.gives(tuple(sorted(found[-1])), farthest, board)
            for number, some in enumerate(found):
                self.gives(tuple(sorted(some)), layer, board, number)
                for turn in some:
                    self.gives(number, fewest, board, turn)
            for number in (len(found), len(found) + 1, 20000, 10 ** 30):
                self.gives((), layer, board, number)

    def test_six_places(self):
        for board in six_places():
            found = layers_of(board)
            self.gives(tuple(len(some) for some in found), spread, board)
            for number, some in enumerate(found):
                self.gives(number, fewest, board, some[0])
                self.gives(tuple(sorted(some)), layer, board, number)

    def test_known_boards(self):
        self.gives((1,) + (2,) * 11 + (1,), spread, ring(24))
        self.gives((tuple((at + 12) % 24 for at in range(24)),), farthest, ring(24))
        self.gives((1,), spread, Board(24, (), ()))
        self.gives((staying(24),), farthest, Board(24, (), ()))
        swaps = board_of(*[turn_of(16, ((at, at + 1),)) for at in range(0, 16, 2)])
        self.gives(tuple(math.comb(8, many) for many in range(9)), spread, swaps)
        lots = (tuple(range(5)), tuple(range(5, 12)), tuple(range(12, 20)))
        self.gives((1,) + (2,) * 139 + (1,), spread, board_of(turn_of(20, lots)))
        self.gives((1, 3, 3, 1), spread, SQUARE)

    def test_20000_turns(self):
        board = just_20000()
        ring_of_five = [1, 3, 4, 2]
        counts = [1]
        # The first ring has a swap beside it: its button has ten powers, and can be turned over, too.
        for factor in (spread(board_of(turn_of(7, ((0, 1, 2, 3, 4), (5, 6))), turn_of(7, ((1, 4), (2, 3))))),
                       ring_of_five, ring_of_five, ring_of_five):
            counts = [sum(counts[at - more] * factor[more] for more in range(len(factor)) if 0 <= at - more < len(counts))
                      for at in range(len(counts) + len(factor) - 1)]
        self.assertEqual(sum(counts), 20000)
        self.assertEqual(spread(board), tuple(counts))
        self.assertEqual(fewest(board, farthest(board)[0]), len(counts) - 1)
        self.assertEqual(len(layer(board, 2)), counts[2])


class Rows(Telling):
    def check_first_row(self, board, turn, many):
        row = first_row(board, turn)
        self.gives(first_of_all(board, turn, many), first_row, board, turn)
        self.assertEqual(pressed(board, row), turn)
        self.assertEqual(sum(abs(number) for _, number in row), many)

    def test_first_row(self):
        for board in some_boards():
            found = layers_of(board)
            for many, some in enumerate(found):
                if len(singles(board)) ** many < 20000:
                    for turn in some[::1 if board.size < 5 else 7]:
                        self.check_first_row(board, turn, many)

    def test_which_press_comes_first(self):
        self.gives((("a", 1),), first_row, MANY, (3, 0, 1, 2))
        self.gives((("a", -1),), first_row, MANY, (1, 2, 3, 0))
        self.gives((("a", 2),), first_row, MANY, (2, 3, 0, 1))
        self.gives((("c", 1),), first_row, MANY, (1, 0, 2, 3))
        self.gives((), first_row, MANY, (0, 1, 2, 3))
        self.gives((("r", 2),), first_row, SQUARE, (2, 3, 0, 1))
        self.gives((("f", 1), ("r", 2)), first_row, SQUARE, (3, 2, 1, 0))
        backwards = board_of((1, 2, 3, 0), (1, 0, 2, 3), names="ba")
        self.gives((("a", 1), ("b", -1), ("a", 1)), first_row, backwards,
                   one_then(one_then((1, 0, 2, 3), (3, 0, 1, 2)), (1, 0, 2, 3)))

    def test_long_rows(self):
        self.gives((("a", 12),), first_row, ring(24), tuple((at + 12) % 24 for at in range(24)))
        self.gives((("a", -11),), first_row, ring(24), tuple((at + 13) % 24 for at in range(24)))
        board = just_20000()
        turn = farthest(board)[0]
        row = first_row(board, turn)
        self.assertEqual(pressed(board, row), turn)
        self.assertEqual(sum(abs(number) for _, number in row), fewest(board, turn))

    def test_told_cost(self):
        for board in some_boards():
            for some in (0, 1, 2, len(board.names)):
                for names in itertools.islice(itertools.permutations(board.names, some), 4):
                    costs = costs_of(board, names)
                    for turn in sorted(costs)[::1 if board.size < 5 else 7]:
                        self.gives(costs[turn], told_cost, board, turn, names)

    def test_told_cost_of_known_boards(self):
        self.gives(0, told_cost, MANY, (2, 3, 0, 1), ("z", "y"))
        self.gives(2, told_cost, MANY, (2, 3, 0, 1), ("z", "y", "a"))
        self.gives(0, told_cost, SQUARE, (2, 1, 0, 3), ())
        board = just_20000()
        turn = farthest(board)[0]
        self.assertEqual(told_cost(board, turn, board.names), fewest(board, turn))
        self.assertEqual(told_cost(board, turn, ("b", "d", "f", "h")), 4)
        steps = board_of(*[tuple((at + step) % 24 for at in range(24)) for step in (3, 8)])
        for goal, names, cost in ((12, "a", 4), (12, "b", 0), (11, "a", 1), (11, "ab", 2), (20, "ba", 5), (20, "b", 1)):
            self.gives(cost, told_cost, steps, tuple((at + goal) % 24 for at in range(24)), tuple(names))

    def test_counted_rows(self):
        for board in some_boards():
            turns = turns_of(board)
            for number in (0, 1, 2, 3, 4, 7, 40):
                counts = counts_of(board, number)
                for turn in turns[::1 if board.size < 4 else 9]:
                    self.gives(counts.get(turn, 0), counted_rows, board, turn, number)

    def test_counted_rows_one_by_one(self):
        for board in (SQUARE, MANY, board_of((0, 1), (1, 0)), Board(3, (), ())):
            for number in range(4):
                made = [pressed(board, tuple(press for press, _ in row))
                        for row in itertools.product(singles(board), repeat=number)]
                for turn in turns_of(board):
                    self.gives(made.count(turn), counted_rows, board, turn, number)

    def test_many_counted_rows(self):
        self.gives(math.comb(40, 20), counted_rows, board_of(turn_of(24, ((0, 1, 2, 3, 4), tuple(range(5, 24))))),
                   staying(24), 40)
        self.gives(2 ** 40, counted_rows, board_of(staying(24)), staying(24), 40)
        self.gives(16 ** 40, counted_rows, board_of(*[(0,)] * 8), (0,), 40)
        self.gives(0, counted_rows, Board(24, (), ()), staying(24), 1)
        self.gives(0, counted_rows, ring(24), staying(24), 39)
        board = just_20000()
        # Each of four rings is pressed forth and back in two orders, and turned over twice with two signs each.
        self.assertEqual(counted_rows(board, staying(22), 2), 4 * 2 + 4 * 4)


class Near(Telling):
    def test_small_boards(self):
        for board in some_boards():
            steps = steps_of(staying(board.size), after_each(board))
            for turn in all_turns(board.size)[::1 if board.size < 4 else 5]:
                for most in range(13) if board.size < 4 else (0, 1, 2, 3, 6, 12):
                    many = steps.get(turn)
                    self.gives(many if many is not None and many <= most else None, near, board, turn, most)

    def test_eight_places(self):
        board = whole(8)
        found = layers_of(board)
        self.assertEqual(sum(len(some) for some in found), 40320)
        for many, some in enumerate(found):
            for turn in some[::len(some) // 3 + 1]:
                for most in {0, 1, 11, 12, min(many, 12), max(min(many - 1, 12), 0)}:
                    self.gives(many if many <= most else None, near, board, turn, most)

    def test_24_places(self):
        rng = random.Random(51)
        for board in (whole(24), evens(24), mathieu()):
            met = {turn: many for many, some in enumerate(self.few_layers(board, 4)) for turn in some}
            for turn in rng.sample(sorted(met), 12):
                for most in (met[turn] - 1, met[turn], 5, 8):
                    if most >= 0:
                        self.gives(met[turn] if met[turn] <= most else None, near, board, turn, most)
            self.gives(None, near, board, tuple(rng.sample(range(24), 24)), 7)
        # A thing that goes one place along the ring each time has to go twelve.
        self.gives(12, near, ring(24), tuple((at + 12) % 24 for at in range(24)), 12)
        self.gives(None, near, ring(24), tuple((at + 12) % 24 for at in range(24)), 11)
        self.gives(12, near, whole(24), tuple((at + 12) % 24 for at in range(24)), 12)
        self.gives(None, near, ring(24), turn_of(24, ((0, 1),)), 12)
        self.gives(0, near, whole(24), staying(24), 0)
        self.gives(None, near, whole(24), turn_of(24, ((0, 1),)), 0)

    def few_layers(self, board, deepest):
        found, after = [[staying(board.size)]], after_each(board)
        met = set(found[0])
        for _ in range(deepest):
            behind = {there for here in found[-1] for there in after(here)} - met
            met |= behind
            found.append(sorted(behind))
        return found

    def test_too_many(self):
        rng = random.Random(52)
        turns = [tuple(rng.sample(range(24), 24)) for _ in range(8)]
        board = Board(24, tuple(zip("abcdefgh", turns)), ())
        # At most 1 + 16 + 16 * 15 + 16 * 15 * 15 turns by three presses, 54000 more by four.
        for most in (0, 1, 5, 6):
            self.gives(0, near, board, staying(24), most)
            self.gives(None if most < 1 else 1, near, board, turns[3], most)
        self.gives(6, near, board, pressed(board, tuple((name, 1) for name in "abcdef")), 6)
        for most in (7, 8, 12):
            self.tells(TooMany(20000), near, board, staying(24), most)
            self.tells(TooMany(20000), near, board, turns[3], most)
            self.tells(TooMany(20000), near, board, turn_of(24, ((0, 1),)), most)
        # The other bound of the board, on all of its turns, is none here.
        self.gives(None, near, Board(24, (("a", staying(24)),), ()), turn_of(24, ((0, 1),)), 12)

    def test_just_as_many(self):
        with mock.patch("seatbuttons.fewest.MOST_TURNS", 4):
            self.gives(1, near, SQUARE, (1, 0, 3, 2), 2)
            self.tells(TooMany(4), near, SQUARE, (1, 0, 3, 2), 3)
        with mock.patch("seatbuttons.fewest.MOST_TURNS", 7):
            self.gives(3, near, SQUARE, (3, 2, 1, 0), 4)
            self.tells(TooMany(7), near, SQUARE, (1, 0, 3, 2), 5)
        with mock.patch("seatbuttons.fewest.MOST_TURNS", 3):
            self.gives(0, near, SQUARE, (0, 1, 2, 3), 0)
            self.tells(TooMany(3), near, SQUARE, (0, 1, 2, 3), 1)


ON_BOARDS = (spread, farthest)
ON_TURNS = (fewest, first_row)


class Wrong(Telling):
    def test_names(self):
        for call in ON_BOARDS:
            self.takes(call, "board")
        for call in ON_TURNS:
            self.takes(call, "board", "turn")
        self.takes(layer, "board", "number")
        self.takes(told_cost, "board", "turn", "names")
        self.takes(counted_rows, "board", "turn", "number")
        self.takes(near, "board", "turn", "most")

    def test_no_boards(self):
        for wrong in no_boards():
            for call in ON_BOARDS:
                self.tells(NotABoard(wrong), call, wrong)
            for call in ON_TURNS:
                self.tells(NotABoard(wrong), call, wrong, (0,))
            self.tells(NotABoard(wrong), layer, wrong, 0)
            self.tells(NotABoard(wrong), told_cost, wrong, (0,), ())
            self.tells(NotABoard(wrong), counted_rows, wrong, (0,), 0)
            self.tells(NotABoard(wrong), near, wrong, (0,), 0)

    def calls_with_turns(self):
        return [(call, ()) for call in ON_TURNS] + [(told_cost, ((),)), (counted_rows, (3,)), (near, (3,))]

    def test_wrong_turns(self):
        for call, rest in self.calls_with_turns():
            for wrong in wrong_turns():
                self.tells(InvalidTurn(wrong), call, SQUARE, wrong, *rest)
            for size in (1, 3, 5, 24):
                self.tells(OtherSize(), call, SQUARE, staying(size), *rest)
            if call != near:
                self.tells(NotInside(2), call, SQUARE, (1, 0, 2, 3), *rest)
                self.tells(NotInside(1), call, SQUARE, (0, 2, 1, 3), *rest)
                self.tells(NotInside(0), call, apart(2, 2), (2, 3, 0, 1), *rest)

    def test_wrong_numbers(self):
        for wrong in NO_INTEGERS + [-1, -10 ** 30]:
            self.tells(InvalidNumber(wrong), layer, SQUARE, wrong)
            self.tells(InvalidNumber(wrong), counted_rows, SQUARE, staying(4), wrong)
            self.tells(InvalidNumber(wrong), near, SQUARE, staying(4), wrong)
        self.tells(InvalidNumber(10 ** 30 + 1), layer, SQUARE, 10 ** 30 + 1)
        for wrong in (41, 10 ** 30):
            self.tells(InvalidNumber(wrong), counted_rows, SQUARE, staying(4), wrong)
        for wrong in (13, 40, 10 ** 30):
            self.tells(InvalidNumber(wrong), near, SQUARE, staying(4), wrong)

    def test_wrong_names(self):
        for wrong in NO_VALUES + [0, "f", ["f"], {"f": 1}, "fr"]:
            self.tells(InvalidNames(None), told_cost, SQUARE, staying(4), wrong)
        for wrong in NO_VALUES + [0, "tie", "F", "ff", ("f",), nested(19)]:
            self.tells(InvalidNames(0), told_cost, SQUARE, staying(4), (wrong,))
            self.tells(InvalidNames(2), told_cost, SQUARE, staying(4), ("r", "f", wrong))
        self.tells(InvalidNames(1), told_cost, SQUARE, staying(4), ("r", "r"))
        self.tells(InvalidNames(2), told_cost, SQUARE, staying(4), ("r", "f", "r", "x"))

    def test_too_many(self):
        for board in (evens(8), whole(24), mathieu(), pairs_kept(6)):
            here = staying(board.size)
            for call in ON_BOARDS:
                self.tells(TooMany(20000), call, board)
            for call in ON_TURNS:
                self.tells(TooMany(20000), call, board, here)
            self.tells(TooMany(20000), layer, board, 0)
            self.tells(TooMany(20000), told_cost, board, here, ())
            self.tells(TooMany(20000), counted_rows, board, here, 0)

    def test_order_of_errors(self):
        wrong, board = (0, 0), (0, 5, NotABoard(5))
        great = evens(8)
        outside = turn_of(8, ((0, 1),))
        turns = ((1, (0,), OtherSize()), (1, outside, NotInside(6)), (1, staying(8), TooMany(20000)))
        for call in ON_TURNS:
            self.tells_in_order(call, (SQUARE, staying(4)), board, (1, wrong, InvalidTurn(wrong)))
            self.tells_in_order(call, (great, staying(8)), *turns)
        self.tells_in_order(layer, (SQUARE, 0), board, (1, -1, InvalidNumber(-1)))
        self.tells_in_order(layer, (great, 0), (1, -1, InvalidNumber(-1)), (1, 1, TooMany(20000)))
        for call, good, last in ((told_cost, (), (2, ("x",), InvalidNames(0))),
                                 (counted_rows, 0, (2, 41, InvalidNumber(41)))):
            self.tells_in_order(call, (great, staying(8), good), board, (1, wrong, InvalidTurn(wrong)), last, *turns)
        self.tells_in_order(near, (SQUARE, staying(4), 0), board, (1, wrong, InvalidTurn(wrong)),
                            (2, 13, InvalidNumber(13)), (1, (0,), OtherSize()))
        rng = random.Random(53)
        free = Board(24, tuple((name, tuple(rng.sample(range(24), 24))) for name in "abcdefgh"), ())
        self.tells_in_order(near, (free, staying(24), 6), (1, wrong, InvalidTurn(wrong)), (2, 13, InvalidNumber(13)),
                            (1, (0,), OtherSize()), (2, 7, TooMany(20000)))

    def test_nothing_is_changed(self):
        board = ring_turned_over(5)
        before = (dict(vars(board)), board.text)
        turn = led_back(board.turn("a"))
        for call in ON_BOARDS:
            call(board)
        for call, rest in self.calls_with_turns():
            call(board, turn, *rest)
        layer(board, 1)
        self.assertEqual((dict(vars(board)), board.text), before)


if __name__ == "__main__":
    unittest.main()
