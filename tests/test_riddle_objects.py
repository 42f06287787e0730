"""Tests of what riddles are made of, how they are compared and changed, and of wrong arguments."""

import math
import unittest

from seatbuttons.boards import Board
from seatbuttons.errors import Impossible, InvalidIndex, InvalidLook, InvalidLooks, InvalidName, InvalidNumber
from seatbuttons.errors import InvalidPlace, InvalidStanding, InvalidStandings, InvalidTurn, NotABoard, NotARiddle
from seatbuttons.errors import OtherSize, TooMany
from seatbuttons.mazes import Maze
from seatbuttons.riddles import Riddle, best_look, board_with, count_fits, fit_at, fits, goals, heaps, left_by
from seatbuttons.riddles import looks_needed, number_of_fit, sure_inside, sure_places, telling_looks, wrong_looks

from tests.groups import board_of, ring
from tests.support import NO_INTEGERS, NO_PLACES, NO_VALUES, Telling, nested, no_boards, staying
from tests.support import wrong_standings, wrong_turns

WHEEL = Board(4, (("r", (1, 2, 3, 0)),), ())
LOOK = ("aabb", (("h", 1),), "abab")
OTHER = ("abab", (("r", 1), ("h", -1), ("r", 10 ** 30)), "aabb")
DIM = Riddle(WHEEL, "h", (LOOK,))
BAD = Riddle(WHEEL, "h", (("abcd", (("h", 1),), "aaaa"),))

NO_NAMES = [value for value in NO_VALUES if not isinstance(value, str)] + [0, (), ("h",), nested(20)]
NO_NAMES += ["", "0", "tie", "r", "H", "h1", "h h", "abcdefghi", "-", " h", "h\n"]

# None of these is a row in which the hidden button h is pressed just once.
NO_ROWS = NO_VALUES + [0, (), "h", [("h", 1)], (("r", 1),), (("h", 1), ("h", 1)), (("h", 1), ("h", -1)), (("h", 2),),
                       (("h", -2),)]
NO_ROWS += [(("h", 0),), (("h", 10 ** 30),), (("h", True),), (["h", 1],), (("h",),), (("h", 1, 1),), ("h", 1),
            (("h", "1"),)]
NO_ROWS += [(("x", 1), ("h", 1)), (("r", 0), ("h", 1)), (("r", 10 ** 30 + 1), ("h", 1)),
            (("h", 1), ("r", -10 ** 30 - 1))]
NO_ROWS += [(("r", True), ("h", 1)), (("h", 1), "r"), (("h", 1), ("tie", 1)), (("h", 1), ((), 1)), (("h", 1), None)]
NO_ROWS += [(("h", 1), (value, 1)) for value in NO_VALUES] + [(("h", value),) for value in NO_VALUES]
NO_ROWS += [(("r", 1),) * 2000 + (("h", 1),), (("h", 1),) + (("r", 1),) * 2000, (nested(17),), ((("h", 1),),)]


def no_looks():
    """Values that are no looks for the hidden button h of the wheel."""
    wrong = NO_VALUES + [0, (), LOOK[:2], LOOK + (1,), list(LOOK), "aabb", (LOOK,), nested(19), {"aabb": 1},
                         ("aabb", "h", "abab")]
    wrong += [(standing, (("h", 1),), "abab") for standing in wrong_standings(4)[:-1]]
    wrong += [("aabb", (("h", 1),), standing) for standing in wrong_standings(4)[:-1]]
    return wrong + [("aabb", row, "abab") for row in NO_ROWS]


class Objects(Telling):
    def test_properties(self):
        board = Board(3, (("b", (1, 0, 2)),), ((0, 2),))
        looks = (("a-b", (("b", 7), ("z", -1)), "bbb"), ("ccc", (("z", 1),), "ccc"))
        riddle = Riddle(board, "z", looks)
        self.assertIs(riddle.board, board)
        self.assertEqual((riddle.name, riddle.looks, riddle.size), ("z", looks, 3))
        self.assertIs(type(riddle.size), int)
        self.assertTrue(riddle)
        self.assertTrue(Riddle(Board(1, (), ()), "h", ()))

    def test_names_that_may_be(self):
        for name in ("a", "z", "abcdefgh", "ti", "ties", "rr"):
            self.assertEqual(Riddle(WHEEL, name, ()).name, name)
        self.assertEqual(Riddle(Board(2, (), ()), "r", ()).name, "r")

    def test_long_rows_and_12_looks(self):
        row = (("r", -10 ** 30),) * 1999 + (("h", -1),)
        self.assertEqual(len(Riddle(WHEEL, "h", (("----", row, "zzzz"),) * 12).looks), 12)

    def test_equal(self):
        self.assertTrue(DIM == Riddle(Board.read("4 ; r 1 2 3 0"), "h", (("aabb", (("h", 1),), "abab"),)))
        self.assertFalse(DIM != Riddle(WHEEL, "h", (LOOK,)))
        for other in (Riddle(WHEEL, "i", ()), Riddle(WHEEL, "h", ()), Riddle(WHEEL, "h", (LOOK, LOOK)),
                      Riddle(WHEEL, "h", (OTHER,)),
                      Riddle(Board(4, WHEEL.buttons, ((0, 1),)), "h", (LOOK,)), Riddle(Board(4, (), ()), "h", (LOOK,)),
                      BAD):
            self.assertFalse(DIM == other)
            self.assertTrue(DIM != other)
        self.assertTrue(Riddle(WHEEL, "i", ()) != Riddle(WHEEL, "h", ()))

    def test_equal_to_nothing_else(self):
        self.equals_itself_alone(DIM, BAD, WHEEL, WHEEL.text, (WHEEL, "h", (LOOK,)), Maze(WHEEL, ("h",), (LOOK,)),
                                 Riddle)

    def test_with_look(self):
        riddle = Riddle(WHEEL, "h", ())
        one = riddle.with_look(LOOK)
        two = one.with_look(look=OTHER)
        self.assertEqual((riddle.looks, one.looks, two.looks), ((), (LOOK,), (LOOK, OTHER)))
        self.assertTrue(one == DIM)
        self.assertIs(two.board, WHEEL)
        self.assertEqual(two.name, "h")
        self.assertEqual(two.with_look(LOOK).looks, (LOOK, OTHER, LOOK))

    def test_without_look(self):
        riddle = Riddle(WHEEL, "h", (LOOK, OTHER, LOOK))
        self.assertEqual(riddle.without_look(0).looks, (OTHER, LOOK))
        self.assertEqual(riddle.without_look(1).looks, (LOOK, LOOK))
        self.assertEqual(riddle.without_look(index=2).looks, (LOOK, OTHER))
        self.assertEqual(riddle.looks, (LOOK, OTHER, LOOK))
        self.assertEqual(DIM.without_look(0), Riddle(WHEEL, "h", ()))
        self.assertTrue(DIM.with_look(OTHER).without_look(1) == DIM)

    def test_equal_results(self):
        for riddle in (DIM, BAD):
            before = dict(vars(riddle))
            for call in (count_fits, heaps, wrong_looks):
                self.gives(call(riddle), call, riddle)
            self.gives(board_with(riddle, staying(4)), board_with, riddle, staying(4))
            self.assertEqual(vars(riddle), before)


class WrongRiddles(Telling):
    def test_names_of_arguments(self):
        self.takes(Riddle, "board", "name", "looks")
        self.takes(DIM.with_look, "look")
        self.takes(DIM.without_look, "index")

    def test_wrong_boards(self):
        for wrong in no_boards():
            self.tells(NotABoard(wrong), Riddle, wrong, "h", ())

    def test_wrong_names(self):
        for wrong in NO_NAMES:
            self.tells(InvalidName(wrong), Riddle, WHEEL, wrong, ())
        full = board_of(*[(0,)] * 8)
        self.tells(InvalidName("h"), Riddle, full, "h", ())

    def test_wrong_looks(self):
        for wrong in NO_VALUES + [0, "", [LOOK], {"a": LOOK}]:
            self.tells(InvalidLooks(None), Riddle, WHEEL, "h", wrong)
        for wrong in no_looks():
            self.tells(InvalidLooks(0), Riddle, WHEEL, "h", (wrong,))
            self.tells(InvalidLooks(2), Riddle, WHEEL, "h", (LOOK, OTHER, wrong, None, LOOK))
            self.tells(InvalidLook(wrong), DIM.with_look, wrong)

    def test_another_name(self):
        self.tells(InvalidLooks(0), Riddle, WHEEL, "i", (LOOK,))
        self.tells(InvalidLooks(1), Riddle, Board(4, (), ()), "h", (LOOK, OTHER))
        self.tells(InvalidLooks(0), Riddle, ring(5), "h", (LOOK,))

    def test_thirteen_looks(self):
        self.tells(InvalidLooks(12), Riddle, WHEEL, "h", (LOOK,) * 13)
        self.tells(InvalidLooks(12), Riddle, WHEEL, "h", (LOOK,) * 12 + (None,))
        self.tells(InvalidLooks(11), Riddle, WHEEL, "h", (LOOK,) * 11 + (None, LOOK, LOOK))
        self.tells(InvalidLooks(12), Riddle, WHEEL, "h", (LOOK,) * 40)
        full = Riddle(WHEEL, "h", (LOOK,) * 12)
        self.tells(TooMany(12), full.with_look, OTHER)
        self.tells(InvalidLook(None), full.with_look, None)
        self.assertEqual(len(full.without_look(3).with_look(OTHER).looks), 12)

    def test_wrong_indexes(self):
        for wrong in NO_INTEGERS + [-1, 1, 2, 10 ** 30]:
            self.tells(InvalidIndex(wrong), DIM.without_look, wrong)
        self.tells(InvalidIndex(0), Riddle(WHEEL, "h", ()).without_look, 0)

    def test_order_of_errors(self):
        self.tells_in_order(Riddle, (WHEEL, "h", ()), (0, 1, NotABoard(1)), (1, "tie", InvalidName("tie")),
                            (2, (1,), InvalidLooks(0)))


ALONE = (count_fits, heaps, sure_places, wrong_looks)
WITH_TURN = (fits, number_of_fit, board_with, sure_inside)
WITH_SIGNS = (looks_needed, telling_looks)


class WrongArguments(Telling):
    def test_names_of_arguments(self):
        for call in ALONE:
            self.takes(call, "riddle")
        for call in WITH_TURN:
            self.takes(call, "riddle", "turn")
        for call in WITH_SIGNS:
            self.takes(call, "riddle", "signs")
        self.takes(goals, "riddle", "place")
        self.takes(fit_at, "riddle", "number")
        self.takes(left_by, "riddle", "standing")
        self.takes(best_look, "riddle", "standings")

    def test_no_riddles(self):
        for wrong in no_boards() + [WHEEL, (WHEEL, "h", ()), Maze(WHEEL, ("h",), ())]:
            for call in ALONE:
                self.tells(NotARiddle(wrong), call, wrong)
            for call in WITH_TURN:
                self.tells(NotARiddle(wrong), call, wrong, (0,))
            for call in WITH_SIGNS:
                self.tells(NotARiddle(wrong), call, wrong, 2)
            self.tells(NotARiddle(wrong), goals, wrong, 0)
            self.tells(NotARiddle(wrong), fit_at, wrong, 0)
            self.tells(NotARiddle(wrong), left_by, wrong, "a")
            self.tells(NotARiddle(wrong), best_look, wrong, ("a",))

    def test_wrong_turns(self):
        for call in WITH_TURN:
            for wrong in wrong_turns():
                self.tells(InvalidTurn(wrong), call, DIM, wrong)
            for size in (1, 3, 5, 24):
                self.tells(OtherSize(), call, DIM, staying(size))

    def test_wrong_places_and_numbers(self):
        for wrong in NO_PLACES + [4, 5]:
            self.tells(InvalidPlace(wrong), goals, DIM, wrong)
        for wrong in NO_INTEGERS + [-1, 4, 5, 10 ** 30]:
            self.tells(InvalidNumber(wrong), fit_at, DIM, wrong)
        for wrong in NO_INTEGERS + [0, -1, 10 ** 30]:
            self.tells(InvalidNumber(wrong), fit_at, BAD, wrong)
        self.tells(InvalidNumber(math.factorial(24)), fit_at, Riddle(Board(24, (), ()), "h", ()), math.factorial(24))
        for call in WITH_SIGNS:
            for wrong in NO_INTEGERS + [-1, 0, 1, 28, 10 ** 30]:
                self.tells(InvalidNumber(wrong), call, DIM, wrong)

    def test_wrong_standings(self):
        for wrong in wrong_standings(4):
            self.tells(InvalidStanding(wrong), left_by, DIM, wrong)
            self.tells(InvalidStandings(0), best_look, DIM, (wrong,))
            self.tells(InvalidStandings(2), best_look, DIM, ("abcd", "----", wrong, wrong))
        for wrong in NO_VALUES + [0, (), ["abcd"], "abcd", {"abcd": 1}]:
            self.tells(InvalidStandings(None), best_look, DIM, wrong)
        self.tells(InvalidStandings(8), best_look, DIM, ("abcd",) * 9)
        self.tells(InvalidStandings(8), best_look, DIM, ("abcd",) * 8 + (None, None))
        self.tells(InvalidStandings(7), best_look, DIM, ("abcd",) * 7 + ("abc", "abcd"))
        self.assertEqual(best_look(DIM, ("aaaa",) * 7 + ("abcd",)), "abcd")

    def test_order_of_errors(self):
        no_riddle, no_turn, never = (0, 3, NotARiddle(3)), (1, (0, 0), InvalidTurn), (0, BAD, Impossible())
        no_turn = (1, no_turn[1], InvalidTurn(no_turn[1]))
        for call in (fits, number_of_fit):
            self.tells_in_order(call, (DIM, staying(4)), no_riddle, no_turn)
            self.tells_in_order(call, (DIM, staying(4)), no_riddle, (1, (0,), OtherSize()))
        self.tells_in_order(goals, (DIM, 0), no_riddle, (1, 4, InvalidPlace(4)))
        self.tells_in_order(goals, (DIM, 0), (1, 4, InvalidPlace(4)), never)
        self.tells_in_order(left_by, (DIM, "aaaa"), no_riddle, (1, "", InvalidStanding("")))
        self.tells_in_order(left_by, (DIM, "aaaa"), (1, "", InvalidStanding("")), never)
        self.tells_in_order(best_look, (DIM, ("aaaa",)), no_riddle, (1, (), InvalidStandings(None)))
        self.tells_in_order(best_look, (DIM, ("aaaa",)), (1, ("a",), InvalidStandings(0)), never)
        for call in WITH_SIGNS:
            self.tells_in_order(call, (DIM, 2), no_riddle, (1, 1, InvalidNumber(1)))
            self.tells_in_order(call, (DIM, 2), (1, 1, InvalidNumber(1)), never)

    def test_order_of_what_cannot_be(self):
        full, seven = board_of(*[staying(6)] * 8), board_of(*[staying(6)] * 7)
        never = ("aaaaaa", (("hid", 1),), "bbbbbb")
        no_turn, other, six = (1, (0, 0), InvalidTurn((0, 0))), (1, (0,), OtherSize()), staying(6)
        for call in (board_with, sure_inside):
            self.tells_in_order(call, (Riddle(seven, "hid", (("abcdef", (("hid", 1),), "abcdef"),)), six),
                                no_turn, other, (0, Riddle(full, "hid", ()), TooMany(8)))
        self.tells_in_order(sure_inside, (Riddle(seven, "hid", (("abcdef", (("hid", 1),), "abcdef"),)), six),
                            no_turn, other, (0, Riddle(full, "hid", (never,)), Impossible()))
        self.tells(TooMany(8), sure_inside, Riddle(full, "hid", ()), six)
        self.tells(TooMany(120), sure_inside, Riddle(seven, "hid", ()), six)
        # Nothing has to fit where no turn that fits is needed.
        self.assertEqual(len(board_with(Riddle(seven, "hid", (never,)), six).names), 8)


if __name__ == "__main__":
    unittest.main()
