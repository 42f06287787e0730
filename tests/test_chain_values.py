"""Tests of chain, is_chain and is_closed of seatbuttons.chains."""

import itertools
import math
import unittest

from seatbuttons.boards import Board
from seatbuttons.chains import base, chain, is_chain, is_closed, order, spans
from seatbuttons.errors import NotABoard

from tests.groups import apart, board_of, evens, little_cube, mathieu, pairs_kept, ring, ring_turned_over, six_places
from tests.groups import small_boards, turns_of, whole
from tests.support import NO_PLACES, NO_VALUES, Telling, led_back, nested, no_boards, one_then, staying
from tests.test_makings import NO_STEPS, turns_made

SQUARE = Board(4, (("f", (1, 0, 3, 2)), ("r", (1, 2, 3, 0))), ())


def comes_down(turn, line, levels, turns, first):
    """Whether a turn comes down from a level on, as the document words it."""
    for place, level in list(zip(line, levels))[first:]:
        steps = dict(level)
        if turn[place] not in steps:
            return False
        if steps[turn[place]] is not None:
            turn = one_then(turn, led_back(turns[steps[turn[place]]]))
    return turn == staying(len(turn))


def closed_by_words(board, value):
    """Whether a chain is closed, as the document words it."""
    steps, line, levels = value
    turns = turns_made(board, steps)
    if not all(comes_down(turn, line, levels, turns, 0) for _, turn in board.buttons):
        return False
    for first, level in enumerate(levels):
        for (_, one), (_, other) in itertools.product(level, [pair for later in levels[first:] for pair in later]):
            turn = staying(board.size)
            for step in (one, other):
                turn = turn if step is None else one_then(turn, turns[step])
            if not comes_down(turn, line, levels, turns, first):
                return False
    return True


def levels_along(turns, line):
    """The levels of a chain with this line whose making has these turns as its first steps."""
    levels, left = [], list(turns)
    for place in line:
        goals = sorted({turn[place] for turn in left})
        level = []
        for goal in goals:
            led = [turn for turn in left if turn[place] == goal]
            level.append((goal, None if goal == place else turns.index(led[-1])))
        levels.append(tuple(level))
        left = [turn for turn in left if turn[place] == place]
    return tuple(levels)


def makings_of_all(board):
    """A making of which each turn of a board is one step's, and these turns in order of the steps."""
    steps, turns = [None], [staying(board.size)]
    for name, turn in board.buttons:
        steps.append(name)
        turns.append(turn)
    at = 0
    while at < len(turns):
        for button in range(1, 1 + len(board.buttons)):
            turn = one_then(turns[at], turns[button])
            if turn not in turns:
                steps.append((at, button))
                turns.append(turn)
        at += 1
    return tuple(steps), turns


class Chains(Telling):
    def check(self, board):
        value = chain(board)
        self.assertIs(type(value), tuple)
        steps, line, levels = value
        self.assertEqual(line, base(board))
        self.assertEqual(tuple(tuple(goal for goal, _ in level) for level in levels), spans(board))
        self.assertEqual(math.prod(len(level) for level in levels), order(board))
        self.assertLessEqual(len(steps), 20000)
        self.gives(True, is_chain, board, value)
        self.gives(True, is_closed, board, value)
        self.gives(value, chain, board)
        return value

    def test_small_boards(self):
        for board in small_boards() + six_places():
            value = self.check(board)
            self.assertTrue(closed_by_words(board, value))

    def test_many_places(self):
        for board in (whole(24), evens(24), ring(24), ring_turned_over(24), pairs_kept(12), apart(6, 6, 6, 6),
                      apart(2, 3, 7, 12), little_cube(), mathieu(), Board(24, (), ())):
            self.check(board)
        for board in (ring(24), ring_turned_over(24), whole(9), evens(10), pairs_kept(6), apart(2, 3, 5), mathieu()):
            self.assertTrue(closed_by_words(board, chain(board)))

    def test_a_group_of_one_turn(self):
        for board in (Board(1, (), ()), Board(3, (), ()), board_of((0, 1, 2))):
            steps, line, levels = self.check(board)
            self.assertEqual((line, levels), ((), ()))
            self.assertGreaterEqual(len(steps), 1)


class Lines(Telling):
    """Chains with other lines than the base."""

    def test_all_lines(self):
        for board in [SQUARE, evens(4), board_of((1, 0, 3, 2)), board_of((1, 0, 2), (0, 2, 1)), Board(3, (), ())]:
            steps, turns = makings_of_all(board)
            for many in range(board.size + 1):
                for line in itertools.permutations(range(board.size), many):
                    value = (steps, line, levels_along(turns, line))
                    self.gives(True, is_chain, board, value)
                    # Closed just if nothing but staying leaves the whole line where it is.
                    kept = [turn for turn in turns if all(turn[place] == place for place in line)]
                    self.gives(kept == [staying(board.size)], is_closed, board, value)
                    self.assertEqual(closed_by_words(board, value), is_closed(board, value), value)

    def test_the_empty_line(self):
        self.gives(True, is_closed, Board(3, (), ()), ((None,), (), ()))
        self.gives(True, is_closed, board_of((0, 1, 2)), (("a",), (), ()))
        self.gives(True, is_chain, SQUARE, (("r", "f", (0, 1)), (), ()))
        self.gives(False, is_closed, SQUARE, (("r", "f", (0, 1)), (), ()))

    def test_levels_without_others(self):
        self.gives(True, is_closed, Board(3, (), ()), ((None,), (2, 0), (((2, None),), ((0, None),))))
        self.gives(True, is_chain, SQUARE, ((None,), (2, 0), (((2, None),), ((0, None),))))
        self.gives(False, is_closed, SQUARE, ((None,), (2, 0), (((2, None),), ((0, None),))))

    def test_some_pairs_left_out(self):
        """All chains of a square, and of all turns of three places, with some of the pairs."""
        for board in (SQUARE, whole(3)):
            steps, line, levels = chain(board)
            full = levels
            some = [list(self.parts_with(place, level)) for place, level in zip(line, levels)]
            closed = 0
            for levels in itertools.product(*some):
                value = (steps, line, levels)
                self.gives(True, is_chain, board, value)
                self.gives(levels == full, is_closed, board, value)
                self.assertEqual(closed_by_words(board, value), is_closed(board, value))
                closed += is_closed(board, value)
            self.assertEqual(closed, 1)

    def parts_with(self, place, level):
        for many in range(len(level) + 1):
            for pairs in itertools.combinations(level, many):
                if (place, None) in pairs:
                    yield pairs

    def test_buttons_that_do_not_come_down(self):
        """A chain that is closed for a part of the group."""
        value = (("r", (0, 0), (1, 0)), (0,), (((0, None), (1, 0), (2, 1), (3, 2)),))
        self.gives(True, is_closed, board_of((1, 2, 3, 0), names="r"), value)
        self.gives(True, is_chain, SQUARE, value)
        self.gives(False, is_closed, SQUARE, value)
        self.assertFalse(closed_by_words(SQUARE, value))

    def test_buttons_that_come_down_while_their_products_do_not(self):
        board = board_of((1, 0, 2), (2, 1, 0))
        value = (("a", "b"), (0,), (((0, None), (1, 0), (2, 1)),))
        self.gives(True, is_chain, board, value)
        self.gives(False, is_closed, board, value)
        self.assertFalse(closed_by_words(board, value))


class OtherwiseChains(Telling):
    """Chains with something otherwise."""

    def setUp(self):
        # A chain of the square with the line (0, 1); its steps make r, f, r f, r r, r r r, f r.
        self.steps = ("r", "f", (0, 1), (0, 0), (3, 0), (1, 0))
        self.first = ((0, None), (1, 0), (2, 3), (3, 4))
        self.second = ((1, None), (3, 2))

    def answers(self, is_one, closed, *value):
        self.gives(is_one, is_chain, SQUARE, value)
        self.gives(closed, is_closed, SQUARE, value)

    def test_as_it_is(self):
        self.answers(True, True, self.steps, (0, 1), (self.first, self.second))
        self.answers(True, True, (*self.steps, None, "r", 0), (0, 1), (self.first, self.second))
        self.answers(True, True, self.steps, (0, 1), (((0, None), (1, 1), (2, 3), (3, 4)), self.second))
        self.answers(True, True, self.steps, (0, 1), (((0, None), (1, 1), (2, 5), (3, 4)), self.second))

    def test_no_triples(self):
        levels = (self.first, self.second)
        for value in NO_VALUES + [0, (), (self.steps,), (self.steps, (0, 1)), (self.steps, (0, 1), levels, ()), nested(20)]:
            self.gives(False, is_chain, SQUARE, value)
            self.gives(False, is_closed, SQUARE, value)
        self.gives(False, is_chain, SQUARE, [self.steps, (0, 1), levels])
        self.answers(False, False, (0, 1), self.steps, levels)
        self.answers(False, False, levels, (0, 1), self.steps)

    def test_other_values_as_parts(self):
        for value in NO_VALUES + [0, "r", nested(19)]:
            self.answers(False, False, value, (0, 1), (self.first, self.second))
            self.answers(False, False, self.steps, value, (self.first, self.second))
            self.answers(False, False, self.steps, (0, 1), value)
            self.answers(False, False, self.steps, (0, 1), (value, self.second))
            self.answers(False, False, self.steps, (0, 1), (self.first, value))

    def test_makings(self):
        for wrong in NO_STEPS:
            steps = ("r", "f", wrong, (0, 0), (3, 0), (1, 0))
            self.answers(False, False, steps, (0, 1), (((0, None), (1, 0)), ((1, None),)))
        self.answers(False, False, (), (), ())
        self.answers(False, False, list(self.steps), (0, 1), (self.first, self.second))
        self.answers(False, False, (*self.steps, "x"), (0, 1), (self.first, self.second))
        many = self.steps + ("r",) * 19994
        self.answers(True, True, many, (0, 1), (self.first, self.second))
        self.answers(False, False, (*many, "r"), (0, 1), (self.first, self.second))

    def test_lines(self):
        for wrong in NO_PLACES + [4, 0]:
            self.answers(False, False, self.steps, (0, wrong), (self.first, self.second))
        for wrong in NO_PLACES + [4, 1]:
            self.answers(False, False, self.steps, (wrong, 1), (self.first, self.second))
        for line in ([0, 1], (0,), (0, 1, 2), (1, 0), (0, 3), (0, 2), (2, 1), ()):
            self.answers(False, False, self.steps, line, (self.first, self.second))
        # The third place is kept by no other turn that keeps the first two.
        self.answers(True, True, self.steps, (0, 1, 2), (self.first, self.second, ((2, None),)))
        self.answers(False, False, self.steps, (0, 1, 1), (self.first, self.second, ((1, None),)))
        self.answers(False, False, self.steps, (0, 1, 4), (self.first, self.second, ((4, None),)))

    def test_levels(self):
        self.answers(False, False, self.steps, (0, 1), [self.first, self.second])
        self.answers(False, False, self.steps, (0, 1), (list(self.first), self.second))
        self.answers(False, False, self.steps, (0, 1), (self.second, self.first))
        self.answers(False, False, self.steps, (0, 1), (self.first,))
        self.answers(False, False, self.steps, (0, 1), (self.first, self.second, ()))
        self.answers(False, False, self.steps, (0, 1), ((), self.second))
        self.answers(False, False, self.steps, (0, 1), (self.first, ()))
        self.answers(False, False, self.steps, (0, 1), (self.first[1:], self.second))
        self.answers(False, False, self.steps, (0, 1), (self.first, self.second[1:]))
        self.answers(False, False, self.steps, (0, 1), (self.first[::-1], self.second))
        self.answers(False, False, self.steps, (0, 1), (self.first, self.second[::-1]))
        self.answers(False, False, self.steps, (0, 1), (self.first + self.first[-1:], self.second))
        self.answers(False, False, self.steps, (0, 1), (self.first[:1] + self.first, self.second))
        self.answers(False, False, self.steps, (0, 1), (((0, None), (1, 0), (1, 1)), self.second))

    def test_pairs(self):
        wrong = NO_VALUES + [0, (), (1,), (1, 0, 0), [1, 0], (1, 6), (1, -1), (1, 10 ** 30), (1, None), (1, 2), (1, 3)]
        wrong += [(2, 0), (0, 0), (0, None), (4, 0), (-1, 0), (1, (0,)), (True, 0), (1, False), (1, "r"), (1, (0, 0))]
        wrong += [(value, 0) for value in NO_PLACES] + [(1, value) for value in NO_PLACES]
        for pair in wrong:
            self.answers(False, False, self.steps, (0, 1), (((0, None), pair, (2, 3), (3, 4)), self.second))
            self.answers(False, False, self.steps, (0, 1), (((0, None), pair), self.second))

    def test_pairs_of_the_place_itself(self):
        steps = (*self.steps, None)
        for index in [value for value in NO_PLACES if value is not None] + [0, 6]:
            self.answers(False, False, steps, (0, 1), (((0, index), *self.first[1:]), self.second))
            self.answers(False, False, steps, (0, 1), (self.first, ((1, index), (3, 2))))

    def test_turns_that_move_places_ahead(self):
        # The third step keeps 0 and leads 1 to 3, the steps 1 and 4 do not keep 0.
        for index in (0, 1, 3, 4, 5):
            self.answers(False, False, self.steps, (0, 1), (self.first, ((1, None), (3, index))))
        self.answers(False, False, self.steps, (0, 1), (self.first, ((0, 1), (1, None), (3, 2))))
        self.answers(False, False, self.steps, (0, 1), (self.first, ((1, None), (2, 0), (3, 2))))
        # As a first level the second one need not keep anything.
        self.answers(True, False, self.steps, (1,), (((0, 1), (1, None), (2, 0), (3, 2)),))

    def test_chains_of_other_boards(self):
        value = chain(SQUARE)
        for board in (evens(4), ring(4), Board(4, (), ()), ring_turned_over(5), Board(3, SQUARE.buttons[:0], ())):
            self.gives(False, is_chain, board, value)
            self.gives(False, is_closed, board, value)
        again = Board(4, SQUARE.buttons, ((0, 1),))
        self.gives(True, is_closed, again, value)
        more = Board(4, (*SQUARE.buttons, ("a", (1, 0, 2, 3))), ())
        self.gives(True, is_chain, more, value)
        self.gives(False, is_closed, more, value)
        same = Board(4, (*SQUARE.buttons, ("a", (2, 3, 0, 1))), ())
        self.gives(True, is_closed, same, value)

    def test_a_chain_with_one_part_otherwise(self):
        """Each part of a chain of many places exchanged, left out or doubled."""
        board = ring_turned_over(8)
        steps, line, levels = chain(board)
        for at, level in enumerate(levels):
            for number, pair in enumerate(level):
                for other in ((), (pair, pair), ((pair[0], 0),), ((pair[0] + 1, pair[1]),), ((pair[0], len(steps)),)):
                    changed = (*level[:number], *other, *level[number + 1:])
                    value = (steps, line, (*levels[:at], changed, *levels[at + 1:]))
                    expected = other == () and pair[1] is not None
                    self.gives(expected, is_chain, board, value)
                    self.gives(False, is_closed, board, value)


class Wrong(Telling):
    def test_names(self):
        self.takes(chain, "board")
        self.takes(is_chain, "board", "value")
        self.takes(is_closed, "board", "value")

    def test_no_boards(self):
        for wrong in no_boards():
            self.tells(NotABoard(wrong), chain, wrong)
            self.tells(NotABoard(wrong), is_chain, wrong, chain(SQUARE))
            self.tells(NotABoard(wrong), is_closed, wrong, chain(SQUARE))
            self.tells(NotABoard(wrong), is_chain, wrong, None)
            self.tells(NotABoard(wrong), is_closed, wrong, None)

    def test_boards_are_no_chains(self):
        self.gives(False, is_chain, SQUARE, SQUARE)
        self.gives(False, is_closed, SQUARE, SQUARE)

    def test_the_board_is_not_changed(self):
        board = ring_turned_over(5)
        before = (dict(vars(board)), board.text)
        value = chain(board)
        is_chain(board, value)
        is_closed(board, value)
        self.assertEqual((dict(vars(board)), board.text), before)
        self.assertEqual(len(turns_of(board)), order(board))


if __name__ == "__main__":
    unittest.main()
