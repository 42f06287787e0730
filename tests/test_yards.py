"""Tests of seatbuttons.yards against walking step by step, and on known yards."""

import itertools
import math
import random
import unittest
from unittest import mock

from seatbuttons.boards import Board
from seatbuttons.errors import InvalidPlace, InvalidStanding, InvalidSteps, InvalidTurn, NotABoard, OtherSize, TooMany
from seatbuttons.turns import turn_of
from seatbuttons.yards import comes_to, count_come, empties, fewest_steps, homing_kind, homing_order, homing_turns
from seatbuttons.yards import is_homing, run_steps, steps_between, steps_to

from tests.groups import board_of, evens, ring, whole
from tests.support import NO_PLACES, NO_VALUES, Telling, all_turns, led_back, nested, no_boards, one_then, staying
from tests.support import wrong_standings, wrong_turns
from tests.walks import Walking, behind_turn, singles, steps_of

LETTERS = "abcdefghijklmnopqrstuvwxyz"
YARD = Board(4, (), ((0, 1), (0, 3), (1, 2), (2, 3)))
GRID = Board(6, (), ((0, 1), (0, 3), (1, 2), (1, 4), (2, 5), (3, 4), (4, 5)))
SEVEN = Board(7, (), ((0, 1), (0, 5), (0, 6), (1, 2), (2, 3), (3, 4), (3, 6), (4, 5)))
MIXED = Board(4, (("a", (0, 2, 1, 3)),), ((0, 1), (0, 3), (1, 2), (2, 3)))


def around(size):
    """The ties that lead around all places."""
    return tuple(sorted([(place, place + 1) for place in range(size - 1)] + [(0, size - 1)]))


def in_rows(rows, columns):
    """Places in rows and columns, each one tied to its neighbours."""
    places = list(itertools.product(range(rows), range(columns)))
    near = [(one, other) for one, other in itertools.combinations(range(len(places)), 2)
            if sum(abs(places[one][at] - places[other][at]) for at in (0, 1)) == 1]
    return Board(rows * columns, (), tuple(near))


def some_boards():
    """Boards of up to five places with ties, with buttons, with both and with neither."""
    rng = random.Random(40)
    boards = [YARD, MIXED, Board(1, (), ()), Board(4, (), ()), ring(4), whole(3), evens(4), board_of(staying(3))]
    boards += [Board(5, (), around(5)), Board(5, (("s", (1, 0, 2, 3, 4)),), around(5)), Board(4, (), ((0, 2),))]
    boards += [Board(4, (), tuple(itertools.combinations(range(4), 2))), Board(5, (), ((0, 1), (1, 2), (2, 3), (3, 4)))]
    for _ in range(12):
        size = rng.randrange(2, 6)
        turns = [tuple(rng.sample(range(size), size)) for _ in range(rng.randrange(3))]
        pairs = list(itertools.combinations(range(size), 2))
        ties = tuple(sorted(rng.sample(pairs, rng.randrange(len(pairs)))))
        boards.append(Board(size, tuple(zip("ab", turns)), ties))
    return boards


def tied_to(board, place):
    return [low + high - place for low, high in board.ties if place in (low, high)]


def turn_behind(board, turn, home, step):
    """The turn behind a step more if home was empty at first."""
    if step[0] == ">":
        return one_then(turn, turn_of(board.size, ((step[1], turn[home]),)))
    return one_then(turn, dict(singles(board))[step])


def steps_at(board, empty):
    """All steps that can be done with this place empty."""
    return [press for press, _ in singles(board)] + [(">", place) for place in tied_to(board, empty)]


def done(board, standing, step):
    """The standing behind a step that can be done there."""
    empty = standing.index("-")
    if step[0] == ">":
        return behind_turn(standing, turn_of(board.size, ((step[1], empty),)))
    return behind_turn(standing, dict(singles(board))[step])


def turns_from(board, home):
    """All turns that tuples of steps make which begin with home empty."""
    return list(steps_of(staying(board.size), lambda turn: [
        turn_behind(board, turn, home, step) for step in steps_at(board, turn[home])]))


def come_from(board, standing):
    """By how few steps other standings are come to from one, for all that are."""
    return steps_of(standing, lambda here: [done(board, here, step) for step in steps_at(board, here.index("-"))])


def some_standings(size):
    """Standings with one empty place."""
    things = [LETTERS[:size - 1], "a" * (size - 1), ("ab" * size)[:size - 1], ("aab" * size)[:size - 1]]
    return sorted({some[:at] + "-" + some[at:] for some in things for at in {0, size // 2, size - 1}})


def all_made(turns, size):
    """All turns that come of these, one then the other."""
    return set(steps_of(staying(size), lambda here: [one_then(here, turn) for turn in turns]))


class Empty(Telling, Walking):
    def test_empties_and_steps_to(self):
        for board in some_boards():
            for home in range(board.size):
                fewest = {}
                for turn, many in steps_of(staying(board.size), lambda turn: [
                        turn_behind(board, turn, home, step) for step in steps_at(board, turn[home])]).items():
                    fewest[turn[home]] = min(many, fewest.get(turn[home], many))
                self.gives(tuple(sorted(fewest)), empties, board, home)
                for goal in range(board.size):
                    self.check_steps(board, home, goal, fewest.get(goal))

    def check_steps(self, board, home, goal, many):
        steps = self.gives_any(steps_to, board, home, goal)
        if many is None:
            self.assertIsNone(steps)
        else:
            self.assertIs(type(steps), tuple)
            self.assertEqual(len(steps), many)
            turn = staying(board.size)
            for step in steps:
                self.assertIn(step, steps_at(board, turn[home]))
                turn = turn_behind(board, turn, home, step)
            self.assertEqual(turn[home], goal)

    def test_known_yards(self):
        self.gives((), steps_to, GRID, 3, 3)
        self.gives(((">", 1), (">", 2)), steps_to, YARD, 0, 2)
        self.gives(None, steps_to, Board(4, (), ((0, 1), (2, 3))), 0, 3)
        self.gives((2, 3), empties, Board(4, (), ((0, 1), (2, 3))), 3)
        self.gives(staying(24), empties, ring(24), 7)
        self.gives((("a", -1),) * 3, steps_to, ring(24), 1, 22)
        self.gives((7,), empties, Board(24, (), ()), 7)
        self.gives(((">", 23), ("a", 1)), steps_to, Board(24, ring(24).buttons, ((12, 23),)), 12, 0)
        self.gives(staying(24), empties, Board(24, (), around(24)), 7)
        self.assertEqual(len(steps_to(Board(24, (), around(24)), 0, 12)), 12)


class Homing(Telling):
    def check_homing(self, board, home, group):
        """All that is told of a homing group is so, the group being that of these turns."""
        self.gives(len(group), homing_order, board, home)
        turns = homing_turns(board, home)
        self.gives(turns, homing_turns, board, home)
        self.assertIs(type(turns), tuple)
        self.assertLessEqual(len(turns), 300)
        self.assertEqual(all_made(turns, board.size), group)
        self.gives(self.kind_of(board.size, home, group), homing_kind, board, home)
        for turn in all_turns(board.size)[::1 if board.size < 5 else 7]:
            self.assertIs(is_homing(board, home, turn), turn in group)
        for turn in sorted(group)[::5]:
            self.gives(True, is_homing, board, home, turn)

    def kind_of(self, size, home, group):
        """The kind of a homing group, of all turns that keep home and its reaches."""
        reaches = {frozenset(turn[place] for turn in group) for place in range(size)}
        keeping = {turn for turn in all_turns(size)
                   if turn[home] == home and all({turn[place] for place in reach} == reach for reach in reaches)}
        if keeping == group:
            return "all"
        crossings = {turn: sum(one > other for one, other in itertools.combinations(turn, 2)) for turn in keeping}
        evens_of = {turn for turn in keeping if crossings[turn] % 2 == 0}
        return "even" if evens_of == group and evens_of != keeping else "other"

    def test_some_boards(self):
        for board in some_boards():
            for home in range(board.size):
                self.check_homing(board, home, {turn for turn in turns_from(board, home) if turn[home] == home})

    def test_six_places(self):
        rng = random.Random(41)
        pairs = list(itertools.combinations(range(6), 2))
        boards = [GRID, Board(6, (("a", (1, 0, 3, 2, 5, 4)),), ((0, 1), (2, 3))), Board(6, (), around(6))]
        boards += [Board(6, (("t", (1, 2, 0, 4, 5, 3)),), ((0, 5),)), Board(6, (), ((0, 1), (0, 2), (1, 2), (3, 4)))]
        boards += [Board(6, (), tuple(sorted(rng.sample(pairs, 7)))) for _ in range(3)]
        for board in boards:
            for home in (0, 5):
                self.check_homing(board, home, {turn for turn in turns_from(board, home) if turn[home] == home})

    def test_known_yards(self):
        half = math.factorial(15) // 2
        for board, order, kind in ((YARD, 3, "even"), (GRID, 60, "even"), (SEVEN, 120, "other"), (MIXED, 6, "all"),
                                   (in_rows(4, 4), half, "even"), (in_rows(3, 3), math.factorial(8) // 2, "even"),
                                   (in_rows(4, 6), math.factorial(23) // 2, "even"), (Board(24, (), around(24)), 23, "other"),
                                   (Board(3, (), around(3)), 2, "all"), (in_rows(1, 24), 1, "all"),
                                   (Board(24, (), tuple(itertools.combinations(range(24), 2))), math.factorial(23), "all"),
                                   (whole(24), math.factorial(23), "all"), (evens(24), math.factorial(23) // 2, "even"),
                                   (ring(24), 1, "all"), (Board(24, (), ()), 1, "all")):
            for home in (0, board.size - 1):
                self.gives(order, homing_order, board, home)
                self.gives(kind, homing_kind, board, home)
                self.assertLessEqual(len(homing_turns(board, home)), 300)

    def test_a_group_of_one_turn(self):
        for board in (Board(1, (), ()), Board(24, (), ()), in_rows(1, 5), ring(24)):
            self.assertEqual(set(homing_turns(board, 0)), {staying(board.size)})
            self.gives(True, is_homing, board, 0, staying(board.size))

    def test_many_steps(self):
        rng = random.Random(42)
        turns = [tuple(rng.sample(range(24), 24)) for _ in range(8)]
        board = Board(24, tuple(zip("abcdefgh", turns)), tuple(itertools.combinations(range(24), 2)))
        for home in (0, 13, 23):
            found = homing_turns(board, home)
            self.assertLessEqual(len(found), 300)
            self.assertTrue(all(turn[home] == home for turn in found))
            self.gives(math.factorial(23), homing_order, board, home)
            self.gives("all", homing_kind, board, home)
            others = [place for place in range(24) if place != home]
            self.gives(True, is_homing, board, home, turn_of(24, (tuple(others),)))
            self.gives(False, is_homing, board, home, turn_of(24, (tuple(range(24)),)))

    def test_turns_that_lead_home_away(self):
        self.gives(False, is_homing, MIXED, 0, (1, 0, 2, 3))
        self.gives(False, is_homing, whole(24), 5, tuple(range(1, 24)) + (0,))
        self.gives(True, is_homing, whole(24), 5, turn_of(24, ((4, 6),)))
        self.gives(False, is_homing, evens(24), 5, turn_of(24, ((4, 6),)))

    def test_several_reaches(self):
        # Presses turn home and three other places about; the last two are exchanged.
        board = Board(6, (("a", (1, 2, 3, 0, 4, 5)), ("b", (0, 1, 2, 3, 5, 4))), ())
        self.gives(2, homing_order, board, 0)
        self.gives("all", homing_kind, board, 0)
        self.gives("even", homing_kind, Board(6, (("b", (0, 2, 1, 4, 3, 5)),), ()), 0)
        self.gives("other", homing_kind, Board(7, (("b", (0, 2, 1, 4, 3, 6, 5)),), ()), 0)
        self.gives("other", homing_kind, Board(8, (("b", (0, 2, 3, 1, 5, 6, 4, 7)),), ()), 0)
        three = Board(8, (("b", (0, 2, 3, 1, 4, 5, 6, 7)), ("c", (0, 2, 1, 3, 5, 4, 6, 7)), ("d", (0, 1, 2, 3, 5, 6, 4, 7))), ())
        self.gives(18, homing_order, three, 0)
        self.gives("even", homing_kind, three, 0)


class Standings(Telling, Walking):
    def test_against_walks(self):
        for board in some_boards() + [Board(24, (), ()), in_rows(1, 24), Board(12, (), around(12)), ring(24)]:
            for one in some_standings(board.size):
                come = come_from(board, one)
                self.gives(len(come), count_come, board, one)
                others = list(come)[::1 if board.size < 5 else 17] + some_standings(board.size)[::2]
                for other in others:
                    self.check_way(board, one, other, come.get(other))

    def check_way(self, board, one, other, many):
        """What is told of the way from the one standing to the other; None if there is none."""
        self.gives(many is not None, comes_to, board, one, other)
        self.gives(many, fewest_steps, board, one, other)
        steps = self.gives_any(steps_between, board, one, other)
        if many is None:
            self.assertIsNone(steps)
        else:
            self.assertIs(type(steps), tuple)
            self.assertEqual(len(steps), many)
            self.gives(other, run_steps, board, one, steps)

    def test_run_steps(self):
        rng = random.Random(43)
        for board in some_boards() + [GRID, in_rows(4, 6), whole(24)]:
            for standing in some_standings(board.size):
                steps, here = [], standing
                for _ in range(12):
                    able = steps_at(board, here.index("-"))
                    if able:
                        steps.append(rng.choice(able))
                        here = done(board, here, steps[-1])
                self.gives(here, run_steps, board, standing, tuple(steps))
                self.gives(standing, run_steps, board, standing, ())

    def test_known_yards(self):
        self.gives(12, count_come, YARD, "-abc")
        self.gives(12, count_come, YARD, "-aab")
        self.gives(4, count_come, YARD, "-aaa")
        self.gives(360, count_come, GRID, "-abcde")
        self.gives(7 * 120, count_come, SEVEN, "-abcdef")
        self.gives(24, count_come, MIXED, "-abc")
        self.gives(24, count_come, in_rows(1, 24), "-" + LETTERS[:23])
        self.gives(24 * 23, count_come, Board(24, (), around(24)), "-" + LETTERS[:23])
        self.gives(24, count_come, Board(24, (), around(24)), "-" + "a" * 23)
        self.gives(math.comb(24, 3) * 3, count_come, in_rows(4, 6), "-zz" + "a" * 21)
        self.gives(False, comes_to, GRID, "-abcde", "-bacde")
        self.gives(True, comes_to, GRID, "-aabcd", "-abacd")
        self.gives(None, steps_between, SEVEN, "-abcdef", "-bacdef")

    def test_other_things(self):
        for other in ("-aaa", "-abd", "cb-d", "-xyz"):
            self.gives(False, comes_to, YARD, "-abc", other)
            self.gives(None, steps_between, YARD, "-abc", other)
            self.gives(None, fewest_steps, YARD, "-abc", other)

    def test_an_empty_place_alone(self):
        board = Board(1, (("a", (0,)),), ())
        self.gives(1, count_come, board, "-")
        self.gives(True, comes_to, board, "-", "-")
        self.gives((), steps_between, board, "-", "-")
        self.gives("-", run_steps, board, "-", (("a", 1), ("a", -1)))

    def test_more_than_50000(self):
        # Three that are alike among 23 others: 24 * 1771 standings; four of them: too many.
        board, few, many = in_rows(4, 6), "-bbb" + "a" * 20, "-bbbb" + "a" * 19
        self.assertEqual(count_come(board, few), 42504)
        for call in (comes_to, steps_between, fewest_steps):
            self.tells(TooMany(50000), call, board, many, many)
            self.tells(TooMany(50000), call, board, many, few)
            self.assertIn(call(in_rows(1, 24), few, many), (False, None))
        self.tells(TooMany(50000), count_come, board, many)
        self.tells(TooMany(50000), count_come, in_rows(3, 3), "-abcdefgh")

    def test_just_as_many_as_are_gone_through(self):
        calls = [(count_come, ())] + [(call, ("a-bc",)) for call in (comes_to, steps_between, fewest_steps)]
        for call, other in calls:
            with mock.patch("seatbuttons.yards.MOST_REACHED", 12):
                call(YARD, "-abc", *other)
                self.tells(TooMany(12), call, MIXED, "-abc", *other)
            with mock.patch("seatbuttons.yards.MOST_REACHED", 11):
                self.tells(TooMany(11), call, YARD, "-abc", *other)

    def test_long_tuples_of_steps(self):
        board, one = Board(24, (), around(24)), "-" + LETTERS[:23]
        come = come_from(board, one)
        far, near = [[other for other, many in come.items() if many == told][0] for told in (276, 275)]
        self.gives(276, fewest_steps, board, one, far)
        self.assertEqual(len(steps_between(board, one, far)), 276)
        with mock.patch("seatbuttons.searching.MOST_PRESSES", 275):
            self.tells(TooMany(275), steps_between, board, one, far)
            self.assertEqual(len(steps_between(board, one, near)), 275)
            self.gives(276, fewest_steps, board, one, far)
            self.gives(True, comes_to, board, one, far)
            self.gives(None, steps_between, board, one, "-" + LETTERS[22::-1])
            with mock.patch("seatbuttons.yards.MOST_REACHED", 551):
                self.tells(TooMany(551), steps_between, board, one, far)


ON_HOMES = (empties, homing_turns, homing_order, homing_kind)
WITH_TWO = (comes_to, steps_between, fewest_steps)

# None of these is a step of the mixed board that can be done in "-abc".
NO_STEPS = NO_VALUES + [0, (), ("a",), ("a", 1, 1), ["a", 1], (1, "a"), "a1", ("a", 0), ("a", 2), ("a", -2), ("b", 1), ("", 1)]
NO_STEPS += [("A", 1), ("aa", 1), ("tie", 1), ("tie", (0, 1)), (("a",), 1), ("a", (1,)), (("a", 1),), nested(20), ("a", 10 ** 30)]
NO_STEPS += [(">", 0), (">", 2), (">", 4), (">", -1), (">", -3), (">", (1,)), (">", "1"), ("<", 1), (">>", 1), (">",), (">", 1, 0)]
NO_STEPS += [(">", value) for value in NO_PLACES] + [("a", value) for value in NO_VALUES]


class Wrong(Telling):
    def test_names(self):
        for call in ON_HOMES:
            self.takes(call, "board", "home")
        self.takes(steps_to, "board", "home", "goal")
        self.takes(is_homing, "board", "home", "turn")
        self.takes(run_steps, "board", "standing", "steps")
        self.takes(count_come, "board", "standing")
        for call in WITH_TWO:
            self.takes(call, "board", "one", "other")

    def test_no_boards(self):
        for wrong in no_boards():
            for call in ON_HOMES:
                self.tells(NotABoard(wrong), call, wrong, 0)
            self.tells(NotABoard(wrong), steps_to, wrong, 0, 0)
            self.tells(NotABoard(wrong), is_homing, wrong, 0, (0,))
            self.tells(NotABoard(wrong), run_steps, wrong, "-", ())
            self.tells(NotABoard(wrong), count_come, wrong, "-")
            for call in WITH_TWO:
                self.tells(NotABoard(wrong), call, wrong, "-", "-")

    def test_wrong_places(self):
        for wrong in NO_PLACES + [4, 5]:
            for call in ON_HOMES:
                self.tells(InvalidPlace(wrong), call, MIXED, wrong)
            self.tells(InvalidPlace(wrong), steps_to, MIXED, wrong, 0)
            self.tells(InvalidPlace(wrong), steps_to, MIXED, 0, wrong)
            self.tells(InvalidPlace(wrong), is_homing, MIXED, wrong, staying(4))

    def test_wrong_turns(self):
        for wrong in wrong_turns():
            self.tells(InvalidTurn(wrong), is_homing, MIXED, 0, wrong)
        for size in (1, 3, 5, 24):
            self.tells(OtherSize(), is_homing, MIXED, 0, staying(size))

    def test_wrong_standings(self):
        for wrong in wrong_standings(4) + ["abcd", "----", "-ab-", "--ab", "aaaa", "a---"]:
            self.tells(InvalidStanding(wrong), count_come, MIXED, wrong)
            self.tells(InvalidStanding(wrong), run_steps, MIXED, wrong, ())
            for call in WITH_TWO:
                self.tells(InvalidStanding(wrong), call, MIXED, wrong, "-abc")
                self.tells(InvalidStanding(wrong), call, MIXED, "-abc", wrong)
        self.tells(InvalidStanding("a"), count_come, Board(1, (), ()), "a")

    def test_no_tuples_of_steps(self):
        for wrong in NO_VALUES + [0, ">1", "a", [("a", 1)], {"a": 1}, [(">", 1)]]:
            self.tells(InvalidSteps(None), run_steps, MIXED, "-abc", wrong)

    def test_no_steps(self):
        for wrong in NO_STEPS:
            self.tells(InvalidSteps(0), run_steps, MIXED, "-abc", (wrong,))
            self.tells(InvalidSteps(2), run_steps, MIXED, "-abc", ((">", 3), (">", 0), wrong, wrong))
        for wrong in [value for value in NO_VALUES if not isinstance(value, str)] + [0, 1, "b", "tie", "0", ""]:
            self.tells(InvalidSteps(1), run_steps, MIXED, "-abc", (("a", 1), (wrong, 1)))

    def test_steps_that_cannot_be_done_there(self):
        self.tells(InvalidSteps(0), run_steps, YARD, "-abc", ((">", 2),))
        self.tells(InvalidSteps(1), run_steps, YARD, "-abc", ((">", 1), (">", 1)))
        self.tells(InvalidSteps(2), run_steps, YARD, "-abc", ((">", 1), (">", 2), (">", 0)))
        # A press may lead the empty place away from what it is tied to.
        tied = Board(4, (("r", (1, 2, 3, 0)),), ((0, 3),))
        self.gives("ca-b", run_steps, tied, "a-bc", (("r", 1),))
        self.tells(InvalidSteps(1), run_steps, tied, "a-bc", (("r", 1), (">", 3)))
        self.gives("-bca", run_steps, tied, "bca-", (("r", 1),))
        self.gives("abc-", run_steps, tied, "bca-", (("r", 1), (">", 3)))
        self.tells(InvalidSteps(0), run_steps, Board(2, (), ()), "-a", ((">", 1),))

    def test_2001_steps(self):
        many = ((">", 1), (">", 0)) * 1000
        self.gives("-abc", run_steps, YARD, "-abc", many)
        self.tells(InvalidSteps(2000), run_steps, YARD, "-abc", many + ((">", 1),))
        self.tells(InvalidSteps(2000), run_steps, YARD, "-abc", many + (None, None))
        self.tells(InvalidSteps(1999), run_steps, YARD, "-abc", many[:-1] + (None, None))
        self.tells(InvalidSteps(0), run_steps, YARD, "-abc", (("a", 1), *many))
        self.gives("-abc", run_steps, MIXED, "-abc", (("a", -1),) * 2000)
        self.tells(InvalidSteps(2000), run_steps, MIXED, "-abc", (("a", -1),) * 2001)

    def test_order_of_errors(self):
        board, home, no_turn = (0, None, NotABoard(None)), (1, 4, InvalidPlace(4)), (0, 0, 1, 2)
        for call in ON_HOMES:
            self.tells_in_order(call, (MIXED, 0), board, home)
        self.tells_in_order(steps_to, (MIXED, 0, 0), board, home, (2, -1, InvalidPlace(-1)))
        self.tells_in_order(is_homing, (MIXED, 0, staying(4)), board, home, (2, no_turn, InvalidTurn(no_turn)), (2, (0,), OtherSize()))
        self.tells_in_order(run_steps, (MIXED, "-abc", ()), board, (1, "--ab", InvalidStanding("--ab")), (2, (1,), InvalidSteps(0)))
        great = in_rows(4, 6)
        row, many = "-" + "a" * 23, "-" + LETTERS[:23]
        self.tells_in_order(count_come, (great, row), board, (1, "abcd", InvalidStanding("abcd")), (1, many, TooMany(50000)))
        for call in WITH_TWO:
            self.tells_in_order(call, (great, row, row), board, (1, "abcd", InvalidStanding("abcd")),
                                (2, "a" * 24, InvalidStanding("a" * 24)), (1, many, TooMany(50000)))

    def test_the_board_is_not_changed(self):
        before = (dict(vars(MIXED)), MIXED.text)
        for call in ON_HOMES:
            call(MIXED, 0)
        steps_to(MIXED, 0, 2)
        is_homing(MIXED, 0, led_back((0, 2, 3, 1)))
        run_steps(MIXED, "-abc", (("a", 1), (">", 1)))
        count_come(MIXED, "-abc")
        for call in WITH_TWO:
            call(MIXED, "-abc", "a-bc")
        self.assertEqual((dict(vars(MIXED)), MIXED.text), before)


if __name__ == "__main__":
    unittest.main()
