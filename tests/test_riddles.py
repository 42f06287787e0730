"""Tests of seatbuttons.riddles against going through all turns and all sets of looks, and on great boards."""

import itertools
import math
import random
import unittest

from seatbuttons.boards import Board
from seatbuttons.errors import Impossible, InvalidNumber, TooMany
from seatbuttons.riddles import Riddle, best_look, board_with, count_fits, fit_at, fits, goals, heaps, left_by
from seatbuttons.riddles import looks_needed, number_of_fit, sure_inside, sure_places, telling_looks, wrong_looks

from tests.groups import board_of, evens, ring, ring_turned_over, turns_of, whole
from tests.riddling import a_row, a_standing, behind_row, fitting, marks_of
from tests.support import Telling, all_turns, staying
from tests.walks import behind_turn

LETTERS = "abcdefghijklmnopqrstuvwxyz"
WHEEL = Board(4, (("r", (1, 2, 3, 0)),), ())
DIM = Riddle(WHEEL, "h", (("aabb", (("h", 1),), "abab"),))
NUMBERS = [1, -1, 2, -5, 10 ** 30, -10 ** 30, 10 ** 29 + 7]


def a_look(rng, board, name, turn, is_so):
    """A look as it is with this turn, or one that may be otherwise."""
    row = (*a_row(rng, board, NUMBERS), (name, rng.choice([1, -1])), *a_row(rng, board, NUMBERS))
    before = a_standing(rng, board.size)
    after = behind_row(board, {name: turn}, row, before) if is_so else "".join(rng.sample(before, board.size))
    return before, row, after


def some_riddles():
    """Riddles of up to four places: clear ones, dim ones, wrong ones, without looks, without buttons."""
    rng = random.Random(60)
    boards = [Board(1, (), ()), Board(2, (), ((0, 1),)), ring(3), WHEEL, whole(4), evens(4), Board(4, (), ()), whole(3)]
    boards += [Board(3, (("i", (1, 0, 2)), ("g", (0, 2, 1))), ((0, 1),)), board_of((1, 2, 0, 3), names="z")]
    found = [Riddle(board, "h", ()) for board in boards]
    for board in boards:
        for many, how_often in ((1, 5), (2, 4), (3, 3), (5, 2)):
            for _ in range(how_often):
                turn = rng.choice(all_turns(board.size))
                looks = [a_look(rng, board, "h", turn, rng.random() < 0.85) for _ in range(many)]
                found.append(Riddle(board, "h", tuple(looks)))
    return found


RIDDLES = [(riddle, fitting(riddle.board, riddle.name, riddle.looks,
                            all_turns(riddle.size))) for riddle in some_riddles()]


class Fits(Telling):
    def test_there_are_riddles_of_all_sorts(self):
        counts = {len(fit) for _, fit in RIDDLES}
        self.assertTrue({0, 1, 2, 4, 6, 24} <= counts, counts)

    def test_fits(self):
        for riddle, fit in RIDDLES:
            self.gives(len(fit), count_fits, riddle)
            for turn in all_turns(riddle.size):
                self.gives(turn in fit, fits, riddle, turn)
                self.gives(fit.index(turn) if turn in fit else None, number_of_fit, riddle, turn)
            for number, turn in enumerate(fit):
                self.gives(turn, fit_at, riddle, number)
            self.tells(InvalidNumber(len(fit)), fit_at, riddle, len(fit))
            self.tells(InvalidNumber(10 ** 30), fit_at, riddle, 10 ** 30)

    def test_heaps(self):
        for riddle, _ in RIDDLES:
            near, _ = marks_of(riddle.board, riddle.name, riddle.looks)
            lots = {tuple(place for place in range(riddle.size) if near[place] == mark) for mark in near}
            self.gives(tuple(sorted(lots)), heaps, riddle)

    def test_marks_tell_what_fits(self):
        for riddle, fit in RIDDLES:
            near, far = marks_of(riddle.board, riddle.name, riddle.looks)
            self.assertEqual(fit, [turn for turn in all_turns(riddle.size)
                                   if all(far[goal] == near[place] for place, goal in enumerate(turn))])

    def test_goals(self):
        for riddle, fit in RIDDLES:
            if not fit:
                continue
            led = [tuple(sorted({turn[place] for turn in fit})) for place in range(riddle.size)]
            for place, some in enumerate(led):
                self.gives(some, goals, riddle, place)
            self.gives(tuple((place, some[0]) for place, some in enumerate(led) if len(some) == 1), sure_places, riddle)

    def test_impossible(self):
        some = [riddle for riddle, fit in RIDDLES if not fit]
        self.assertGreater(len(some), 5)
        for riddle in some:
            self.tells(Impossible(), goals, riddle, 0)
            self.tells(Impossible(), sure_places, riddle)
            self.tells(Impossible(), left_by, riddle, "a" * riddle.size)
            self.tells(Impossible(), best_look, riddle, ("a" * riddle.size,))
            self.tells(Impossible(), looks_needed, riddle, 2)
            self.tells(Impossible(), telling_looks, riddle, 2)
            self.tells(Impossible(), sure_inside, riddle, staying(riddle.size))
            self.gives(0, count_fits, riddle)
            self.gives(False, fits, riddle, staying(riddle.size))
            self.gives(None, number_of_fit, riddle, staying(riddle.size))

    def test_things_that_come_from_nowhere(self):
        for after in ("aaaa", "abcd", "aab-", "bbba", "----"):
            riddle = Riddle(WHEEL, "h", (("aabb", (("h", 1),), after),))
            self.gives(0, count_fits, riddle)
            self.gives(((0, 1), (2, 3)), heaps, riddle)

    def test_24_places(self):
        board = whole(24)
        free = Riddle(board, "h", ())
        self.gives(math.factorial(24), count_fits, free)
        self.gives(staying(24), fit_at, free, 0)
        self.gives(staying(24)[::-1], fit_at, free, math.factorial(24) - 1)
        self.tells(InvalidNumber(math.factorial(24)), fit_at, free, math.factorial(24))
        self.gives(math.factorial(23) * 5 + 1, number_of_fit, free, (5, 0, 1, 2, 3, 4) + tuple(range(6, 22)) + (23, 22))
        self.gives(staying(24), goals, free, 7)
        self.gives((), sure_places, free)
        self.gives((staying(24),), heaps, free)
        halves = Riddle(board, "h", (("a" * 12 + "b" * 12, (("h", -1),), "ab" * 12),))
        self.gives(math.factorial(12) ** 2, count_fits, halves)
        self.gives(tuple(range(0, 12)), goals, halves, 4)
        self.gives(tuple(range(12, 24)), goals, halves, 5)
        last = tuple((11 if place % 2 == 0 else 23) - place // 2 for place in range(24))
        self.gives(last, fit_at, halves, math.factorial(12) ** 2 - 1)
        self.gives(math.factorial(12) ** 2 - 1, number_of_fit, halves, last)
        clear = Riddle(board, "h", ((LETTERS[:24], (("a", 1), ("h", 1), ("b", 10 ** 30)), LETTERS[1:24] + "a"),))
        self.gives(1, count_fits, clear)
        self.assertEqual(len(sure_places(clear)), 24)
        told = fit_at(clear, 0)
        self.gives(True, fits, clear, told)
        self.assertEqual(behind_row(board, {"h": told}, (("a", 1), ("h", 1), ("b", 10 ** 30)), LETTERS[:24]),
                         LETTERS[1:24] + "a")

    def test_2000_presses(self):
        row = (("r", 1),) * 1000 + (("h", -1),) + (("r", 10 ** 30),) * 999
        riddle = Riddle(WHEEL, "h", (("abcd", row, "abcd"),))
        self.gives(fitting(WHEEL, "h", riddle.looks, all_turns(4))[0], fit_at, riddle, 0)

    def test_12_looks(self):
        rng = random.Random(61)
        board = ring(24)
        turn = tuple(rng.sample(range(24), 24))
        looks = tuple((before, (("a", 3), ("h", 1)), behind_row(board, {"h": turn}, (("a", 3), ("h", 1)), before))
                      for before in ("".join(rng.choice("ab") for _ in range(24)) for _ in range(12)))
        riddle = Riddle(board, "h", looks)
        self.gives(True, fits, riddle, turn)
        self.gives(turn, fit_at, riddle, number_of_fit(riddle, turn))


class Looks(Telling):
    def left(self, riddle, fit, standing):
        """How many turns fit behind a bare look, which is the same whichever one it was."""
        counts = {sum(behind_turn(standing, other) == behind_turn(standing, turn) for other in fit) for turn in fit}
        self.assertEqual(len(counts), 1)
        return counts.pop()

    def test_left_by(self):
        for riddle, fit in RIDDLES:
            if fit:
                for standing in ("a" * riddle.size, "abab"[:riddle.size], "abcd"[:riddle.size], "a--b"[:riddle.size]):
                    many = self.left(riddle, fit, standing)
                    self.gives(many, left_by, riddle, standing)
                    seen = riddle.with_look((standing, (("h", 1),), behind_turn(standing, fit[-1])))
                    self.gives(many, count_fits, seen)

    def test_best_look(self):
        rng = random.Random(62)
        for riddle, fit in RIDDLES:
            if fit:
                standings = tuple(a_standing(rng, riddle.size) for _ in range(rng.randrange(1, 9)))
                left = [self.left(riddle, fit, standing) for standing in standings]
                self.gives(standings[left.index(min(left))], best_look, riddle, standings)
        self.gives("abab", best_look, DIM, ("aaab", "abab", "abcd"))
        self.gives("bbbb", best_look, DIM, ("bbbb", "aaaa"))

    def needed(self, riddle, fit, signs):
        """The least number of standings that tell all turns that fit apart, going through all of them."""
        standings = ["".join(some) for some in itertools.product("abcd"[:signs], repeat=riddle.size)]
        for many in itertools.count():
            for some in itertools.combinations(standings, many):
                if len({tuple(behind_turn(standing, turn) for standing in some) for turn in fit}) == len(fit):
                    return many

    def test_looks_needed(self):
        for riddle, fit in RIDDLES:
            if fit:
                for signs in (2, 3, 4):
                    many = self.needed(riddle, fit, signs)
                    self.gives(many, looks_needed, riddle, signs)
                    self.check_telling(riddle, signs, many)

    def check_telling(self, riddle, signs, many):
        found = telling_looks(riddle, signs)
        self.gives(found, telling_looks, riddle, signs)
        self.assertIs(type(found), tuple)
        self.assertEqual(len(found), many)
        self.assertLessEqual(len(set("".join(found))), signs)
        turn = fit_at(riddle, count_fits(riddle) - 1)
        # As many looks more may be too many for one riddle, but not for one without the others.
        left = 1
        for heap in heaps(riddle):
            marks = ["".join(standing[place] for standing in found) for place in heap]
            left *= len(heap) == len(set(marks))
        self.assertEqual(left, 1)
        for standing in found:
            self.assertEqual(len(standing), riddle.size)
            self.assertTrue(set(standing) <= set(LETTERS + "-"))
            if len(riddle.looks) < 12:
                riddle = riddle.with_look((standing, ((riddle.name, 1),), behind_turn(standing, turn)))
        self.gives(1, count_fits, riddle)

    def test_known_numbers(self):
        free = Riddle(whole(24), "h", ())
        for signs, many in ((2, 5), (3, 3), (4, 3), (5, 2), (23, 2), (24, 1), (25, 1), (26, 1), (27, 1)):
            self.gives(many, looks_needed, free, signs)
            self.check_telling(free, signs, many)
        for size, signs, many in ((8, 2, 3), (9, 2, 4), (16, 2, 4), (17, 2, 5), (9, 3, 2), (10, 3, 3), (1, 2, 0),
                                  (1, 27, 0), (2, 27, 1)):
            self.gives(many, looks_needed, Riddle(Board(size, (), ()), "h", ()), signs)
            self.check_telling(Riddle(Board(size, (), ()), "h", ()), signs, many)
        self.gives((), telling_looks, Riddle(WHEEL, "h", (("abcd", (("h", 1),), "abcd"),)), 2)


class Wronged(Telling):
    def model(self, riddle):
        """All least wrong sets of looks, going through all sets."""
        sets = [some for many in range(len(riddle.looks) + 1) for some in itertools.combinations(range(len(riddle.looks)), many)]
        wrong = []
        for some in sets:
            kept = [look for at, look in enumerate(riddle.looks) if at not in some]
            if fitting(riddle.board, riddle.name, kept, all_turns(riddle.size)):
                wrong.append(some)
        least = [some for some in wrong if not any(set(other) < set(some) for other in wrong)]
        return tuple(sorted(least, key=lambda some: (len(some), some)))

    def test_all_sets(self):
        for riddle, fit in RIDDLES:
            if len(riddle.looks) < 5:
                found = self.model(riddle)
                self.gives(found, wrong_looks, riddle)
                self.assertEqual(found == ((),), len(fit) > 0)

    def test_looks_that_contradict_one_another(self):
        rng = random.Random(63)
        several = 0
        for board in (ring(3), WHEEL, Board(3, (), ())):
            for many in (4, 5, 6):
                turns = rng.sample(all_turns(board.size), 2)
                looks = tuple(a_look(rng, board, "h", rng.choice(turns), True) for _ in range(many))
                riddle = Riddle(board, "h", looks)
                found = self.model(riddle)
                several += len(found) > 1
                self.gives(found, wrong_looks, riddle)
        self.assertGreater(several, 2)

    def test_eight_and_nine_looks(self):
        right, wrong = ("abcd", (("h", 1),), "abcd"), ("abcd", (("h", 1),), "dcba")
        self.gives(((5,), (0, 1, 2, 3, 4, 6, 7)), wrong_looks,
                   Riddle(WHEEL, "h", (right,) * 5 + (wrong,) + (right,) * 2))
        self.gives(((0, 2, 4, 6), (1, 3, 5, 7)), wrong_looks, Riddle(WHEEL, "h", (right, wrong) * 4))
        self.gives(((),), wrong_looks, Riddle(WHEEL, "h", (right,) * 8))
        # A look that nothing fits by itself is in each wrong set.
        none = ("abcd", (("h", 1),), "aaaa")
        self.gives(((0, 1, 2), (0, 1, 3)), wrong_looks, Riddle(WHEEL, "h", (none, none, right, wrong)))
        for many in (9, 10, 12):
            self.tells(TooMany(8), wrong_looks, Riddle(WHEEL, "h", (right,) * many))
            self.tells(TooMany(8), wrong_looks, Riddle(WHEEL, "h", (right,) * (many - 1) + (wrong,)))


class Boards(Telling):
    def test_board_with(self):
        for riddle, fit in RIDDLES:
            for turn in all_turns(riddle.size)[::5]:
                board = board_with(riddle, turn)
                expected = Board(riddle.size, riddle.board.buttons + (("h", turn),), riddle.board.ties)
                self.assertEqual(board, expected)
                self.gives(expected, board_with, riddle, turn)
        self.assertEqual(board_with(Riddle(Board(2, (), ((0, 1),)), "h", ()), (1, 0)).text, "2 ; h 1 0 ; tie 0 1")

    def test_sure_inside(self):
        for riddle, fit in RIDDLES:
            if fit:
                groups = [set(turns_of(Board(riddle.size, riddle.board.buttons + (("h", turn),), ()))) for turn in fit]
                for turn in all_turns(riddle.size):
                    self.gives(all(turn in group for group in groups), sure_inside, riddle, turn)

    def test_120_turns(self):
        five = Riddle(ring(5), "h", ())
        self.gives(120, count_fits, five)
        self.gives(True, sure_inside, five, (1, 2, 3, 4, 0))
        self.gives(False, sure_inside, five, (1, 0, 2, 3, 4))
        # Of all turns of five places some leave all the evens as they are.
        self.gives(True, sure_inside, Riddle(evens(5), "h", ()), (1, 2, 0, 3, 4))
        self.gives(False, sure_inside, Riddle(evens(5), "h", ()), (1, 0, 2, 3, 4))
        for before, after in (("aaaaab", "aaaaab"), ("aaabb-", "bb-aaa"), ("aaaaa-", "a-aaaa")):
            riddle = Riddle(ring(6), "h", ((before, (("h", 1),), after),))
            self.gives(True, sure_inside, riddle, (5, 0, 1, 2, 3, 4))
        self.tells(TooMany(120), sure_inside, Riddle(ring(6), "h", ()), (5, 0, 1, 2, 3, 4))
        free = Riddle(whole(24), "h", ())
        self.tells(TooMany(120), sure_inside, free, staying(24))
        for things, many in (("aaaaabcdefghijklmnopqrst", 120), ("aaaaabbcdefghijklmnopqrs", 240)):
            riddle = Riddle(whole(24), "h", ((things, (("h", 1),), things),))
            self.gives(many, count_fits, riddle)
            if many == 120:
                self.gives(True, sure_inside, riddle, (1, 0) + tuple(range(2, 24)))
            else:
                self.tells(TooMany(120), sure_inside, riddle, (1, 0) + tuple(range(2, 24)))

    def test_eight_buttons(self):
        board = board_of(*[(1, 0, 2, 3)] * 7)
        self.assertEqual(len(board_with(Riddle(board, "hid", ()), (0, 1, 3, 2)).names), 8)
        self.gives(True, sure_inside, Riddle(board, "hid", ()), (1, 0, 2, 3))
        full = Riddle(board_of(*[(1, 0, 2, 3)] * 8), "hid", ())
        self.tells(TooMany(8), board_with, full, (0, 1, 3, 2))
        self.tells(TooMany(8), sure_inside, full, (0, 1, 3, 2))
        self.gives(24, count_fits, full)
        self.tells(TooMany(8), sure_inside, Riddle(board_of(*[staying(6)] * 8), "hid", ()), staying(6))
        self.tells(TooMany(120), sure_inside, Riddle(board_of(*[staying(6)] * 7), "hid", ()), staying(6))

    def test_ties_and_order_of_names(self):
        riddle = Riddle(Board(3, (("b", (1, 2, 0)), ("d", (1, 0, 2))), ((0, 2),)), "c", ())
        self.assertEqual(board_with(riddle, (2, 1, 0)).text, "3 ; b 1 2 0 ; c 2 1 0 ; d 1 0 2 ; tie 0 2")
        self.gives(False, sure_inside, Riddle(ring_turned_over(4), "h", ()), (1, 0, 2, 3))


if __name__ == "__main__":
    unittest.main()
