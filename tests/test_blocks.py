"""Tests of seatbuttons.blocks against going through all lots of places and all turns, and on known boards."""

import itertools
import unittest

from seatbuttons.blocks import blocks_with, board_of, has_blocks, is_block, least_block, led_blocks, top_blocks
from seatbuttons.boards import Board
from seatbuttons.chains import order
from seatbuttons.errors import InvalidBlock, InvalidPlace, InvalidPlaces, NotABlock, NotABoard, NotLed
from seatbuttons.presses import pressed
from seatbuttons.turns import turn_of

from tests.groups import apart, evens, little_cube, mathieu, pairs_kept, ring, ring_turned_over, six_places, small_boards
from tests.groups import board_of as board_with
from tests.groups import turns_of, whole
from tests.support import NO_PLACES, NO_VALUES, Telling, nested, no_boards, staying

SIX = ring_turned_over(6)
TWO = board_with((1, 0, 2, 3, 4), (0, 1, 3, 4, 2))
MADE_FOR_BLOCKS = [SIX, TWO, pairs_kept(2), ring(6), ring(4), board_with((1, 0, 3, 2), (2, 3, 0, 1)), apart(4, 2)]
MADE_FOR_BLOCKS += [board_with((1, 2, 0, 4, 5, 3)), board_with((1, 2, 0, 4, 5, 3), (3, 4, 5, 0, 1, 2))]
MADE_FOR_BLOCKS += [Board(4, (), ()), Board(1, (), ()), board_with(staying(3), staying(3))]


def led_onto(places, turn):
    return tuple(sorted(turn[place] for place in places))


def all_lots(size):
    """All ascending tuples of places but the empty one."""
    return [lot for many in range(1, size + 1) for lot in itertools.combinations(range(size), many)]


def blocks_in(board):
    """All blocks of a board, as the document words it."""
    turns = turns_of(board)
    found = []
    for lot in all_lots(board.size):
        if set(lot) <= {turn[lot[0]] for turn in turns}:
            onto = {led_onto(lot, turn) for turn in turns}
            if all(goals == lot or not set(goals) & set(lot) for goals in onto):
                found.append(lot)
    return found


def some_boards():
    return small_boards()[::3] + six_places() + MADE_FOR_BLOCKS


def shorter_first(blocks):
    return tuple(sorted(blocks, key=lambda block: (len(block), block)))


class AllLots(Telling):
    def test_is_block(self):
        for board in some_boards():
            blocks = blocks_in(board)
            for lot in all_lots(board.size):
                self.gives(lot in blocks, is_block, board, lot)

    def test_blocks_with(self):
        for board in some_boards():
            blocks = blocks_in(board)
            for place in range(board.size):
                self.gives(shorter_first(block for block in blocks if place in block), blocks_with, board, place)

    def test_top_blocks_and_has_blocks(self):
        for board in some_boards():
            blocks = blocks_in(board)
            for place in range(board.size):
                own = [block for block in blocks if place in block]
                reach = max(own, key=len)
                lesser = [block for block in own if block != reach]
                top = [block for block in lesser if not any(set(block) < set(other) for other in lesser)]
                self.gives(shorter_first(top), top_blocks, board, place)
                self.gives(len(own) > len({(place,), reach}), has_blocks, board, place)

    def test_least_block(self):
        for board in some_boards()[::2]:
            blocks = blocks_in(board)
            for many in (1, 2, 3):
                for places in list(itertools.permutations(range(board.size), many))[::3 if board.size > 4 else 1]:
                    around = [block for block in blocks if set(places) <= set(block)]
                    if around:
                        self.gives(min(around, key=len), least_block, board, places)
                        self.assertTrue(all(set(min(around, key=len)) <= set(block) for block in around))
                    else:
                        reach = max([block for block in blocks if places[0] in block], key=len)
                        other = [place for place in places if place not in reach][0]
                        self.tells(NotLed(places[0], other), least_block, board, places)

    def test_led_blocks(self):
        for board in some_boards():
            turns = turns_of(board)
            for block in blocks_in(board):
                self.gives(tuple(sorted({led_onto(block, turn) for turn in turns})), led_blocks, board, block)

    def test_board_of(self):
        for board in some_boards():
            for block in blocks_in(board):
                blocks = led_blocks(board, block)
                found = board_of(board, block)
                self.assertIs(type(found), Board)
                self.assertEqual((found.size, found.ties, found.names), (len(blocks), (), board.names))
                for name, turn in board.buttons:
                    goals = tuple(blocks.index(led_onto(here, turn)) for here in blocks)
                    self.assertEqual(found.turn(name), goals)
                self.assertEqual(board_of(block=block, board=board), found)

    def test_rows_on_the_board_of_a_block(self):
        for board, block in ((SIX, (0, 3)), (SIX, (0, 2, 4)), (pairs_kept(12), (6, 7)), (little_cube(), (3, 4, 5))):
            blocks = led_blocks(board, block)
            names = (board.names * 3)[:7]
            row = tuple((name, number) for name, number in zip(names, (1, -1, 3, 2, -5, 1, 10 ** 20)))
            turn = pressed(board, row)
            goals = tuple(blocks.index(led_onto(here, turn)) for here in blocks)
            self.assertEqual(pressed(board_of(board, block), row), goals)


class KnownBoards(Telling):
    def test_no_others(self):
        for board in (whole(24), evens(24), mathieu(), ring(23), ring_turned_over(23), whole(2), apart(24)):
            self.gives(((0,), staying(board.size)), blocks_with, board, 0)
            self.gives(False, has_blocks, board, board.size - 1)
            self.gives(((1,),), top_blocks, board, 1)
            self.gives(staying(board.size), least_block, board, (1, 0))

    def test_rings(self):
        told = {many: tuple(range(5 % (24 // many), 24, 24 // many)) for many in (1, 2, 3, 4, 6, 8, 12, 24)}
        for board in (ring(24), ring_turned_over(24)):
            self.gives(tuple(told.values()), blocks_with, board, 5)
            self.gives((told[8], told[12]), top_blocks, board, 5)
            self.gives(told[12], least_block, board, (5, 9, 3))
            self.gives(told[6], least_block, board, (5, 17, 9))
            self.gives(tuple((at, at + 8, at + 16) for at in range(8)), led_blocks, board, (2, 10, 18))
            self.gives(True, is_block, board, (3, 15))
            self.gives(False, is_block, board, (3, 14))
        self.gives(2 * 8, order, board_of(ring_turned_over(24), (2, 10, 18)))

    def test_pairs_and_corners(self):
        self.gives(((23,), (22, 23), staying(24)), blocks_with, pairs_kept(12), 23)
        self.gives(((22, 23),), top_blocks, pairs_kept(12), 23)
        self.gives((20, 21), least_block, pairs_kept(12), (21, 20))
        self.gives(479001600, order, board_of(pairs_kept(12), (0, 1)))
        self.gives(((3,), (3, 4, 5), staying(24)), blocks_with, little_cube(), 3)
        self.gives(40320, order, board_of(little_cube(), (21, 22, 23)))

    def test_many_blocks(self):
        # All 16 sums of four swaps, which have 67 lots of sums that hold together.
        sums = board_with(*[tuple(place ^ 2 ** at for place in range(16)) for at in range(4)])
        blocks = blocks_with(sums, 0)
        self.assertEqual([[len(block) for block in blocks].count(many) for many in (1, 2, 4, 8, 16)], [1, 15, 35, 15, 1])
        self.gives(blocks[51:66], top_blocks, sums, 0)
        self.gives((0, 3, 5, 6), least_block, sums, (0, 3, 5))
        self.gives((5, 10), least_block, sums, (10, 5))

    def test_several_reaches(self):
        board = apart(6, 6, 12)
        self.gives(((7,), (6, 7, 8, 9, 10, 11)), blocks_with, board, 7)
        self.tells(NotLed(7, 12), least_block, board, (7, 12, 0))
        self.tells(NotLed(7, 0), least_block, board, (7, 11, 0))
        self.gives(True, is_block, board, tuple(range(12, 24)))
        self.gives(False, is_block, board, tuple(range(6, 24)))
        self.gives(((0, 1, 2, 3, 4, 5),), led_blocks, board, staying(6))
        self.assertEqual(board_of(board, staying(6)).text, "1 ; a 0 ; b 0 ; c 0 ; d 0 ; e 0 ; f 0")

    def test_reaches_of_one_place(self):
        for board in (Board(24, (), ()), Board(1, (), ()), Board(2, (("a", (0, 1)),), ((0, 1),))):
            self.gives(((0,),), blocks_with, board, 0)
            self.gives((), top_blocks, board, 0)
            self.gives(False, has_blocks, board, 0)
            self.gives((0,), least_block, board, (0,))
            self.gives(((0,),), led_blocks, board, (0,))
        self.gives(((4,),), top_blocks, board_with(turn_of(6, ((4, 5),))), 4)

    def test_ties_do_not_count(self):
        tied = Board(6, SIX.buttons, ((0, 1), (2, 4)))
        self.gives(blocks_with(SIX, 0), blocks_with, tied, 0)
        self.assertEqual(board_of(tied, (0, 3)).text, "3 ; a 1 2 0 ; b 2 1 0")


WITH_PLACE = (blocks_with, top_blocks, has_blocks)
WITH_BLOCK = (led_blocks, board_of)
NO_BLOCKS = [(0, 1), (0, 1, 2), (0, 2), (1, 5), (0, 3, 4), (0, 1, 2, 3, 4), (2, 4, 5)]


class Wrong(Telling):
    def test_names(self):
        self.takes(is_block, "board", "value")
        self.takes(least_block, "board", "places")
        for call in WITH_PLACE:
            self.takes(call, "board", "place")
        for call in WITH_BLOCK:
            self.takes(call, "board", "block")

    def test_no_boards(self):
        for wrong in no_boards():
            self.tells(NotABoard(wrong), is_block, wrong, (0,))
            self.tells(NotABoard(wrong), least_block, wrong, (0,))
            for call in WITH_PLACE:
                self.tells(NotABoard(wrong), call, wrong, 0)
            for call in WITH_BLOCK:
                self.tells(NotABoard(wrong), call, wrong, (0,))

    def test_values_that_are_no_blocks(self):
        wrong = NO_VALUES + [(), 0, 1, "0", [0], [0, 3], {0: 3}, {0, 3}, "03", nested(20), (0, nested(19))]
        wrong += [(3, 0), (0, 0), (0, 3, 3), (0, 2, 4, 4), (True,), (False, 3), (0, 6), (-3, 0), (0, 1, 2, 3, 4, 5, 6)]
        wrong += [(value,) for value in NO_PLACES + [6]] + [(0, value) for value in NO_PLACES + [6]]
        wrong += [tuple(range(1000)), ((0, 3),), ((0, 3), (1, 4), (2, 5)), (0, "3"), (10 ** 30,)]
        for value in wrong:
            self.assertIs(is_block(SIX, value), False)
            self.assertIs(is_block(value=value, board=SIX), False)
        for value in NO_BLOCKS:
            self.gives(False, is_block, SIX, value)
        self.gives(False, is_block, TWO, (0, 2))
        self.gives(False, is_block, TWO, (0, 1, 2, 3, 4))

    def test_wrong_places(self):
        for call in WITH_PLACE:
            for wrong in NO_PLACES + [6, 23]:
                self.tells(InvalidPlace(wrong), call, SIX, wrong)

    def test_wrong_tuples_of_places(self):
        for wrong in NO_VALUES + [0, [0], [0, 1], "01", {0: 1}, ()]:
            self.tells(InvalidPlaces(None), least_block, SIX, wrong)
        for wrong in NO_PLACES + [6, 7]:
            self.tells(InvalidPlaces(0), least_block, SIX, (wrong,))
            self.tells(InvalidPlaces(2), least_block, SIX, (3, 0, wrong))
        self.tells(InvalidPlaces(1), least_block, SIX, (0, 0))
        self.tells(InvalidPlaces(3), least_block, SIX, (0, 1, 2, 3))
        self.tells(InvalidPlaces(3), least_block, SIX, (0, 1, 2, None, 0))
        self.tells(InvalidPlaces(1), least_block, SIX, (0, 6, 2, 3))

    def test_wrong_blocks(self):
        for call in WITH_BLOCK:
            for wrong in NO_VALUES + [0, [0], [0, 3], "03", {0: 3}, ()]:
                self.tells(InvalidBlock(None), call, SIX, wrong)
            for wrong in NO_PLACES + [6, 7]:
                self.tells(InvalidBlock(0), call, SIX, (wrong,))
                self.tells(InvalidBlock(2), call, SIX, (0, 3, wrong, wrong))
            for block, index in (((0, 0), 1), ((3, 0), 1), ((0, 2, 1), 2), ((0, 1, 2, 3, 4, 5, 5), 6), ((0, 1, 6), 2)):
                self.tells(InvalidBlock(index), call, SIX, block)
            self.tells(InvalidBlock(6), call, SIX, tuple(range(30)))
            self.tells(InvalidBlock(0), call, SIX, nested(20))

    def test_no_blocks(self):
        for call in WITH_BLOCK:
            for lot in NO_BLOCKS:
                self.tells(NotABlock(lot), call, SIX, lot)
            for lot in ((0, 2), (0, 1, 2, 3, 4), (2, 3)):
                self.tells(NotABlock(lot), call, TWO, lot)

    def test_order_of_errors(self):
        board, lot = (0, "6", NotABoard("6")), (0, 1)
        for call in WITH_PLACE:
            self.tells_in_order(call, (SIX, 0), board, (1, 6, InvalidPlace(6)))
        for call in WITH_BLOCK:
            self.tells_in_order(call, (SIX, (0, 3)), board, (1, (0, 1, 1), InvalidBlock(2)), (1, lot, NotABlock(lot)))
        self.tells_in_order(least_block, (TWO, (0, 1)), board, (1, (0, 2, 0), InvalidPlaces(2)), (1, (0, 2), NotLed(0, 2)))

    def test_the_board_is_not_changed(self):
        before = (dict(vars(SIX)), SIX.text)
        for call in WITH_PLACE:
            call(SIX, 3)
        for call in WITH_BLOCK + (is_block, least_block):
            call(SIX, (0, 3))
        self.assertEqual((dict(vars(SIX)), SIX.text), before)


if __name__ == "__main__":
    unittest.main()
