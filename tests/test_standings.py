"""Tests of seatbuttons.standings against going on press by press, and on known boards."""

import itertools
import math
import random
import unittest
from unittest import mock

from seatbuttons.boards import Board
from seatbuttons.chains import order
from seatbuttons.errors import InvalidStanding, InvalidTurn, NotABoard, OtherSize, TooMany
from seatbuttons.presses import on
from seatbuttons.standings import all_reached, count_reached, farthest_standings, goes, keepers, least, presses_between
from seatbuttons.standings import row_between, turned
from seatbuttons.turns import turn_of

from tests.groups import apart, board_of, evens, pairs_kept, ring, ring_turned_over, six_places, small_boards, turns_of
from tests.groups import whole
from tests.support import Telling, all_turns, no_boards, staying, wrong_standings, wrong_turns
from tests.walks import Walking, behind_turn, singles, steps_of

SQUARE = ring_turned_over(4)
LETTERS = "abcdefghijklmnopqrstuvwxyz"


def some_standings(size):
    """Standings with things that are alike, with none, with empty places, with none, with nothing else."""
    signs = ["-" * size, "a" * size, LETTERS[:size], ("ab" * size)[:size], ("-a" * size)[:size], ("zzy-" * size)[:size]]
    return sorted(set(signs + ["b" + "a" * (size - 1), "-" * (size - 1) + "q"]))


def fewest_from(board, standing):
    """By how few single presses other standings come of one, for all that do."""
    turns = [turn for _, turn in singles(board)]
    return steps_of(standing, lambda here: [behind_turn(here, turn) for turn in turns])


def some_boards():
    boards = small_boards()[::4] + six_places() + [Board(1, (), ()), Board(5, (), ()), board_of(staying(3), staying(3))]
    return boards + [Board(4, SQUARE.buttons, ((0, 1), (2, 3)))]


class Turned(Telling):
    def test_all_turns(self):
        for size in (1, 2, 3, 4):
            for turn, standing in itertools.product(all_turns(size), some_standings(size)):
                self.gives(behind_turn(standing, turn), turned, standing, turn)

    def test_great_turns(self):
        self.gives("x" + LETTERS[:23], turned, LETTERS[:24], tuple((place + 1) % 24 for place in range(24)))
        self.gives(LETTERS[23::-1], turned, LETTERS[:24], staying(24)[::-1])

    def test_it_is_what_presses_make(self):
        for turn in all_turns(4):
            board = board_of(turn)
            for standing in some_standings(4):
                self.assertEqual(turned(standing, turn), on(board, (("a", 1),), standing))


class PressByPress(Telling, Walking):
    def test_reached(self):
        for board in some_boards():
            turns = turns_of(board)
            for standing in some_standings(board.size):
                reached = sorted({behind_turn(standing, turn) for turn in turns})
                self.gives(len(reached), count_reached, board, standing)
                self.gives(tuple(reached), all_reached, board, standing)
                self.gives(reached[0], least, board, standing)
                kept = [turn for turn in turns if behind_turn(standing, turn) == standing]
                self.gives(len(kept), keepers, board, standing)
                self.assertEqual(len(kept) * len(reached), order(board))

    def test_rows(self):
        for board in some_boards():
            standings = some_standings(board.size)
            for one in standings:
                fewest = fewest_from(board, one)
                for other in sorted(set(standings) | set(list(fewest)[::3])):
                    self.check_row(board, one, other, fewest.get(other))

    def check_row(self, board, one, other, many):
        """What is told of the way from the one standing to the other; None if there is none."""
        self.gives(many is not None, goes, board, one, other)
        self.gives(many, presses_between, board, one, other)
        row = self.gives_any(row_between, board, one, other)
        if many is None:
            self.assertIsNone(row)
        else:
            self.is_single_row(row, board)
            self.assertEqual(len(row), many)
            self.assertEqual(on(board, row, one), other)

    def test_farthest(self):
        for board in some_boards():
            for standing in some_standings(board.size):
                fewest = fewest_from(board, standing)
                most = max(fewest.values())
                told = sorted(other for other, many in fewest.items() if many == most)
                self.gives(tuple(told), farthest_standings, board, standing)

    def test_24_places_and_one_button(self):
        rng = random.Random(30)
        for sizes in ((24,), (7, 8, 9), (3, 5, 7, 8), (2,) * 12, (1,) * 24, (23,)):
            starts = [sum(sizes[:at]) for at in range(len(sizes))]
            lots = tuple(tuple(range(start, start + size)) for start, size in zip(starts, sizes))
            board = board_of(turn_of(24, lots))
            standings = ["a" * 12 + "b" * 12, ("ab-" * 8), LETTERS[:24], "-" * 23 + "a"]
            standings.append("".join(rng.choice("ab-") for _ in range(24)))
            for standing in standings:
                fewest = fewest_from(board, standing)
                self.gives(tuple(sorted(fewest)), all_reached, board, standing)
                self.gives(len(fewest), count_reached, board, standing)
                self.gives(min(fewest), least, board, standing)
                self.gives(math.lcm(*sizes) // len(fewest), keepers, board, standing)
                for other in list(fewest)[::71] + [standing[::-1]]:
                    self.check_row(board, standing, other, fewest.get(other))
                most = max(fewest.values())
                told = sorted(other for other, many in fewest.items() if many == most)
                self.gives(tuple(told), farthest_standings, board, standing)

    def test_the_nearer_way_round(self):
        self.gives((("a", -1),) * 2, row_between, ring(24), "b" + "a" * 23, "a" * 22 + "ba")
        self.gives(12, presses_between, ring(24), "b" + "a" * 23, "a" * 12 + "b" + "a" * 11)
        self.gives(("a" * 12 + "b" + "a" * 11,), farthest_standings, ring(24), "b" + "a" * 23)
        self.gives(("a" * 12 + "b" + "a" * 10, "a" * 11 + "b" + "a" * 11), farthest_standings, ring(23), "b" + "a" * 22)


class KnownBoards(Telling):
    def test_from_a_standing_to_itself(self):
        for board in (SQUARE, whole(12), Board(24, (), ())):
            standing = ("aab-" * 6)[:board.size]
            self.gives(True, goes, board, standing, standing)
            self.gives((), row_between, board, standing, standing)
            self.gives(0, presses_between, board, standing, standing)

    def test_other_things(self):
        for other in ("aaaa", "aab-", "ccdd", "aabc", "----", "aabx"):
            self.gives(False, goes, SQUARE, "aabb", other)
            self.gives(None, row_between, SQUARE, "aabb", other)
            self.gives(None, presses_between, SQUARE, "aabb", other)

    def test_empty_places_come_first(self):
        self.gives("-ab", least, whole(3), "ba-")
        self.gives(("-ab", "-ba", "a-b", "ab-", "b-a", "ba-"), all_reached, whole(3), "ab-")
        self.gives("-" * 21 + "abb", least, whole(24), "ab" + "-" * 21 + "b")

    def test_great_boards(self):
        self.gives(math.comb(24, 4), count_reached, whole(24), "a" * 4 + "b" * 20)
        self.gives(math.factorial(20) * math.factorial(4), keepers, whole(24), "ab" * 4 + "b" * 16)
        self.gives(math.factorial(22) // 2, keepers, evens(24), "-a" + "b" * 22)
        self.gives(24 * 23, count_reached, evens(24), "-a" + "b" * 22)
        self.gives(24, count_reached, pairs_kept(12), "a" + "b" * 23)
        self.gives(12, count_reached, pairs_kept(12), "aa" + "b" * 22)
        self.gives("a" * 22 + "bb", least, pairs_kept(12), "bb" + "a" * 22)
        self.gives("a" * 21 + "bab", least, pairs_kept(12), "bab" + "a" * 21)
        self.gives(math.factorial(24), keepers, whole(24), "c" * 24)
        self.gives(1, count_reached, whole(24), "-" * 24)


MANY = (count_reached, all_reached, least, keepers, farthest_standings)
WITH_TWO = (goes, row_between, presses_between)


class ManyStandings(Telling):
    def test_up_to_50000(self):
        # 18 things, nine of which are alike.
        standing, last = "a" * 9 + "b" * 9, "b" * 9 + "a" * 9
        self.assertEqual(count_reached(whole(18), standing), 48620)
        self.assertEqual(least(whole(18), last), standing)
        reached = all_reached(whole(18), last)
        self.assertEqual((len(reached), reached[0], reached[-1]), (48620, standing, last))
        self.assertIs(goes(whole(18), standing, last), True)
        self.assertEqual(keepers(whole(18), standing), math.factorial(9) ** 2)
        self.assertEqual(len(row_between(whole(18), standing, last)), presses_between(whole(18), standing, last))

    def test_more_than_50000(self):
        board, standing = whole(19), "a" * 7 + "b" * 12
        self.assertEqual(math.comb(19, 7), 50388)
        for call in MANY:
            self.tells(TooMany(50000), call, board, standing)
        for call in WITH_TWO:
            for other in (standing, "a" * 19):
                self.tells(TooMany(50000), call, board, standing, other)
            # From the other one there may be so many.
            self.assertIn(call(board, "a" * 19, standing), (False, None))
        for call in MANY:
            self.tells(TooMany(50000), call, evens(24), LETTERS[:24])

    def test_just_as_many_as_are_gone_through(self):
        for call, other in [(call, ()) for call in MANY] + [(call, ("ba--",)) for call in WITH_TWO]:
            with mock.patch("seatbuttons.standings.MOST_REACHED", 12):
                call(whole(4), "ab--", *other)
                self.tells(TooMany(12), call, whole(4), "abc-", *other)
            with mock.patch("seatbuttons.standings.MOST_REACHED", 11):
                self.tells(TooMany(11), call, whole(4), "ab--", *other)

    def test_long_rows(self):
        board = board_of(turn_of(24, (tuple(range(7)), tuple(range(7, 15)), tuple(range(15, 24)))))
        standing = "a" + "b" * 6 + "a" + "b" * 7 + "a" + "b" * 8
        other = on(board, (("a", 252),), standing)
        self.gives((other,), farthest_standings, board, standing)
        self.gives(252, presses_between, board, standing, other)
        with mock.patch("seatbuttons.searching.MOST_PRESSES", 251):
            self.tells(TooMany(251), row_between, board, standing, other)
            self.gives(252, presses_between, board, standing, other)
            self.gives(True, goes, board, standing, other)
            near = on(board, (("a", 251),), standing)
            self.assertEqual(len(row_between(board, standing, near)), 251)
            self.gives(None, row_between, board, standing, other[::-1])


class Wrong(Telling):
    def test_names(self):
        self.takes(turned, "standing", "turn")
        for call in MANY[:4]:
            self.takes(call, "board", "standing")
        self.takes(farthest_standings, "board", "one")
        for call in WITH_TWO:
            self.takes(call, "board", "one", "other")

    def test_no_boards(self):
        for wrong in no_boards():
            for call in MANY:
                self.tells(NotABoard(wrong), call, wrong, "aabb")
            for call in WITH_TWO:
                self.tells(NotABoard(wrong), call, wrong, "aabb", "abab")

    def test_wrong_standings(self):
        for wrong in wrong_standings(4):
            for call in MANY:
                self.tells(InvalidStanding(wrong), call, SQUARE, wrong)
            for call in WITH_TWO:
                self.tells(InvalidStanding(wrong), call, SQUARE, wrong, "aabb")
                self.tells(InvalidStanding(wrong), call, SQUARE, "aabb", wrong)

    def test_turned(self):
        for wrong in wrong_standings(4):
            if not isinstance(wrong, str) or not 1 <= len(wrong) <= 24 or set(wrong) - set(LETTERS + "-"):
                self.tells(InvalidStanding(wrong), turned, wrong, (1, 2, 3, 0))
            else:
                self.tells(OtherSize(), turned, wrong, (1, 2, 3, 0))
        for wrong in ("a" * 25, "-" * 25, "a" * 1000, "", "a" * 24 + "A"):
            self.tells(InvalidStanding(wrong), turned, wrong, staying(24))
        for wrong in wrong_turns():
            self.tells(InvalidTurn(wrong), turned, "aabb", wrong)
        for size in (1, 3, 5, 24):
            self.tells(OtherSize(), turned, "aabb", staying(size))

    def test_order_of_errors(self):
        great, no_turn = whole(24), (1, 1, 2, 3)
        board = (0, None, NotABoard(None))
        self.tells_in_order(turned, ("aabb", (1, 0, 2, 3)), (0, "aabB", InvalidStanding("aabB")),
                            (1, no_turn, InvalidTurn(no_turn)), (1, (0,), OtherSize()))
        for call in MANY:
            self.tells_in_order(call, (great, "a" * 24), board, (1, "a", InvalidStanding("a")),
                                (1, LETTERS[:24], TooMany(50000)))
        for call in WITH_TWO:
            self.tells_in_order(call, (great, "a" * 24, "a" * 24), board, (1, "a", InvalidStanding("a")),
                                (2, "b", InvalidStanding("b")), (1, LETTERS[:24], TooMany(50000)))

    def test_the_board_is_not_changed(self):
        before = (dict(vars(SQUARE)), SQUARE.text)
        for call in MANY:
            call(SQUARE, "aab-")
        for call in WITH_TWO:
            call(SQUARE, "aab-", "-baa")
        self.assertEqual((dict(vars(SQUARE)), SQUARE.text), before)


if __name__ == "__main__":
    unittest.main()
