"""Tests of renamings of boards against trying all turns and all orders of names, and on great boards."""

import itertools
import random
import unittest

from seatbuttons import matching
from seatbuttons.boards import Board, named, placed
from seatbuttons.errors import NotABoard, OtherSize, TooMany
from seatbuttons.likeness import alike, renaming
from seatbuttons.turns import turn_of

from tests.groups import apart, board_of, evens, little_cube, mathieu, pairs_kept, ring, ring_turned_over, whole
from tests.support import Telling, all_turns, led_back, no_boards, one_then, staying
from tests.walks import Walking

NAMES = ("x", "yy", "ab", "zzz", "a")


def is_renaming(value, one, other):
    """Whether a pair is a renaming, as the document words it."""
    turn, names = value
    if sorted(names) != list(other.names) or len(names) != len(one.names) or sorted(turn) != list(range(one.size)):
        return False
    for (_, button), name in zip(one.buttons, names):
        if any(other.turn(name)[turn[place]] != turn[goal] for place, goal in enumerate(button)):
            return False
    return {frozenset((turn[low], turn[high])) for low, high in one.ties} == {frozenset(tie) for tie in other.ties}


def has_renaming(one, other):
    """Whether there is one, of all there could be."""
    return any(is_renaming((turn, names), one, other)
               for turn in all_turns(one.size) for names in itertools.permutations(other.names))


def shuffled(size, rng):
    places = list(range(size))
    rng.shuffle(places)
    return tuple(places)


def renamed(board, rng):
    """A board that is alike: other places, and other names in another order."""
    names = list(NAMES[:len(board.names)])
    rng.shuffle(names)
    return named(placed(board, shuffled(board.size, rng)), tuple(names))


def some_boards(size, many, rng):
    """Boards of so many places with up to three buttons and up to three ties."""
    pairs = list(itertools.combinations(range(size), 2))
    boards = []
    for _ in range(many):
        turns = [shuffled(size, rng) for _ in range(rng.randrange(4))]
        ties = rng.sample(pairs, rng.randrange(min(4, len(pairs) + 1)))
        boards.append(Board(size, tuple(zip("abc", turns)), tuple(sorted(ties))))
    return boards


def tied(size, *lots):
    """The board of the ties that lead around each of these lots of places."""
    ties = {tuple(sorted((lot[at - 1], lot[at]))) for lot in lots for at in range(len(lot))}
    return Board(size, (), tuple(sorted(ties)))


def in_lots(*sizes):
    """Rings of ties, of so many places each."""
    starts = [sum(sizes[:at]) for at in range(len(sizes))]
    return tied(sum(sizes), *[tuple(range(start, start + size)) for start, size in zip(starts, sizes)])


class Renaming(Telling, Walking):
    def check(self, one, other, told):
        """There is a renaming just if it is told so; what is told is one."""
        self.gives(told, alike, one, other)
        found = self.gives_any(renaming, one, other)
        if told:
            self.assertIs(type(found), tuple)
            self.assertEqual([type(part) for part in found], [tuple, tuple])
            self.assertTrue(is_renaming(found, one, other))
        else:
            self.assertIsNone(found)


class AllTurns(Renaming):
    def test_boards_of_a_few_places(self):
        rng = random.Random(20)
        for size, many in ((1, 6), (2, 14), (3, 24), (4, 9)):
            for one, other in itertools.product(some_boards(size, many, rng), repeat=2):
                self.check(one, other, has_renaming(one, other))

    def test_all_boards_with_one_button_of_four_places(self):
        boards = [Board(4, (("a", turn),), ties) for turn in all_turns(4)[::2] for ties in ((), ((0, 1),), ((0, 1), (2, 3)))]
        for one, other in itertools.product(boards[::2], boards):
            self.check(one, other, has_renaming(one, other))

    def test_all_ties_of_four_places(self):
        pairs = list(itertools.combinations(range(4), 2))
        boards = [Board(4, (), ties) for many in range(7) for ties in itertools.combinations(pairs, many)]
        for one, other in itertools.product(boards[::3], boards):
            if len(one.ties) == len(other.ties):
                self.check(one, other, has_renaming(one, other))

    def test_five_places_that_were_renamed(self):
        rng = random.Random(21)
        for board in some_boards(5, 24, rng):
            other = renamed(board, rng)
            self.check(board, other, True)
            for more in some_boards(5, 1, rng):
                self.check(board, more, has_renaming(board, more))

    def test_two_buttons_and_all_pairs_of_turns(self):
        boards = [board_of(*pair) for pair in itertools.product(all_turns(3), repeat=2)]
        for one, other in itertools.product(boards[::3], boards):
            self.check(one, other, has_renaming(one, other))


class Names(Renaming):
    def test_the_names_stand_in_the_order_of_the_buttons_of_the_one(self):
        one = Board(4, (("a", (1, 2, 3, 0)), ("b", (1, 0, 2, 3)), ("c", (1, 2, 0, 3))), ())
        other = Board(4, (("p", (1, 0, 2, 3)), ("q", (1, 2, 0, 3)), ("r", (1, 2, 3, 0))), ())
        self.gives(((0, 1, 2, 3), ("r", "p", "q")), renaming, one, other)
        self.gives(((0, 1, 2, 3), ("b", "c", "a")), renaming, other, one)

    def test_buttons_that_do_the_same(self):
        same = board_of((1, 2, 0), (1, 2, 0), (2, 0, 1), (1, 2, 0), (2, 0, 1))
        self.check(same, named(same, ("e", "d", "c", "b", "a")), True)
        self.check(same, board_of((1, 2, 0), (1, 2, 0), (1, 2, 0), (1, 2, 0), (2, 0, 1)), False)
        self.check(same, board_of((2, 0, 1), (2, 0, 1), (1, 2, 0), (2, 0, 1), (1, 2, 0)), True)

    def test_another_number_of_buttons(self):
        self.check(ring(3), ring_turned_over(3), False)
        self.check(Board(3, (), ()), ring(3), False)
        self.check(ring_turned_over(3), Board(3, (), ()), False)
        self.check(board_of((0, 1, 2)), Board(3, (), ()), False)

    def test_ties_tell_buttons_apart(self):
        one = Board(4, (("a", (1, 0, 2, 3)), ("b", (0, 1, 3, 2))), ((0, 1),))
        other = Board(4, (("a", (1, 0, 2, 3)), ("b", (0, 1, 3, 2))), ((2, 3),))
        self.assertEqual(renaming(one, other)[1], ("b", "a"))
        self.check(one, other, True)
        self.check(one, Board(4, one.buttons, ((0, 2),)), False)
        self.check(one, Board(4, one.buttons, ()), False)
        self.check(one, Board(4, one.buttons, ((0, 1), (2, 3))), False)

    def test_a_button_with_which_all_stay_is_one(self):
        self.check(board_of((1, 0), (0, 1)), board_of((0, 1), (1, 0)), True)
        self.check(board_of((1, 0), (0, 1)), board_of((1, 0), (1, 0)), False)


class GreatBoards(Renaming):
    def check(self, one, other, told):
        """The same with one call of each, for these take their time."""
        self.assertIs(alike(one, other), told)
        found = renaming(one=one, other=other)
        self.assertEqual(found is not None and is_renaming(found, one, other), told)
        self.assertEqual(found is None, not told)

    def test_known_boards(self):
        rng = random.Random(22)
        boards = [whole(24), evens(24), mathieu(), ring(24), ring_turned_over(24), pairs_kept(12), Board(24, (), ())]
        boards += [board_of(*[turn for _, turn in little_cube().buttons][:5]), apart(9, 15)]
        boards += [board_of(turn_of(24, tuple((at, at + 1) for at in range(0, 24, 2))))]
        for board in boards:
            self.check(board, renamed(board, rng), True)
            self.check(board, renamed(Board(24, board.buttons, ((0, 23),)), rng), False)
            few = Board(24, board.buttons, tuple(sorted(rng.sample(list(itertools.combinations(range(24), 2)), 40))))
            self.check(few, renamed(few, rng), True)

    def test_one_button_that_is_another_one(self):
        rng = random.Random(23)
        for size in (7, 16, 24):
            turns = [shuffled(size, rng) for _ in range(4)]
            board = board_of(*turns)
            self.check(board, renamed(board, rng), True)
            # Each turn has the same rings as before, but not those between two of them.
            turns[2] = one_then(one_then(led_back(turns[0]), turns[2]), turns[0])
            self.check(board, renamed(board_of(*turns), rng), False)

    def test_the_same_turns_by_other_buttons(self):
        self.check(ring(24), board_of(staying(24)[1:] + (0,)), True)
        self.check(ring(24), board_of((23,) + staying(23)), True)
        self.check(ring(23), board_of(tuple((place + 5) % 23 for place in range(23))), True)
        self.check(ring(24), board_of(tuple((place + 2) % 24 for place in range(24))), False)

    def test_rings_of_ties(self):
        rng = random.Random(24)
        for sizes in ((3,) * 8, (3, 3, 3, 3, 4, 4, 4), (24,), (12, 12), (4, 8, 12), (5, 5, 7, 7)):
            self.check(in_lots(*sizes), renamed(in_lots(*sizes), rng), True)
        self.check(in_lots(*[3] * 8), in_lots(3, 3, 3, 3, 3, 3, 6), False)
        self.check(in_lots(24), in_lots(12, 12), False)
        self.check(in_lots(3, 3, 3, 3, 4, 4, 4), in_lots(3, 3, 3, 5, 5, 5), False)
        self.check(in_lots(6, 6, 12), in_lots(6, 9, 9), False)

    def test_ties_that_look_alike_from_each_place(self):
        rng = random.Random(25)
        places = [(at // 4, at % 4) for at in range(16)]
        steps = {(0, 1), (1, 0), (1, 1), (0, 3), (3, 0), (3, 3)}
        pairs = list(itertools.combinations(range(16), 2))
        rows = [pair for pair in pairs if any(places[pair[0]][at] == places[pair[1]][at] for at in (0, 1))]
        skew = [(low, high) for low, high in pairs
                if tuple((places[high][at] - places[low][at]) % 4 for at in (0, 1)) in steps]
        self.assertEqual((len(rows), len(skew)), (48, 48))
        for size in (16, 17, 24):
            one, other = Board(size, (), tuple(rows)), Board(size, (), tuple(skew))
            self.check(one, other, False)
            self.check(one, renamed(one, rng), True)
            self.check(other, renamed(other, rng), True)

    def test_five_buttons_that_any_order_suits(self):
        swaps = board_of(*[turn_of(24, ((0, at),)) for at in range(1, 6)])
        rng = random.Random(26)
        self.check(swaps, renamed(swaps, rng), True)
        one = Board(24, swaps.buttons, ((1, 2), (2, 3), (3, 4), (4, 5), (5, 20)))
        self.check(one, renamed(one, rng), True)
        self.check(one, renamed(Board(24, swaps.buttons, ((0, 20), (1, 2), (2, 3), (3, 4), (4, 5))), rng), False)


class Parts(unittest.TestCase):
    """Places that hang on one another; what is chosen for others is nothing to them."""

    def part_of(self, board, start):
        colours = matching._first_colours(board.size, [turn for _, turn in board.buttons], board.ties)
        return sorted(matching._part(matching._told_apart(colours, colours)[0], start, range(board.size)))

    def test_parts(self):
        squares = Board(10, (), tuple(sorted(in_lots(4, 4).ties)))
        self.assertEqual(self.part_of(squares, 2), list(range(8)))
        self.assertEqual(self.part_of(squares, 9), [8, 9])
        self.assertEqual(self.part_of(Board(5, (), ()), 0), [0, 1, 2, 3, 4])
        self.assertEqual(self.part_of(in_lots(5, 5, 6), 7), list(range(10)))
        self.assertEqual(self.part_of(in_lots(5, 5, 6), 15), list(range(10, 16)))
        # Ties from each of three places to each of four others tell nothing; from each to one of three do.
        joined = tuple((low, high) for low in range(3) for high in range(3, 7))
        self.assertEqual(self.part_of(Board(7, (), joined), 0), [0, 1, 2])
        self.assertEqual(self.part_of(Board(7, (), joined), 6), [3, 4, 5, 6])
        self.assertEqual(self.part_of(Board(6, (("a", (1, 2, 0, 3, 4, 5)),), ((0, 3), (1, 4), (2, 5))), 4), list(range(6)))


def with_buttons(many, size=3):
    return Board(size, tuple((name, staying(size)) for name in "abcdefgh"[:many]), ())


class Wrong(Telling):
    def test_names(self):
        for call in (renaming, alike):
            self.takes(call, "one", "other")

    def test_no_boards(self):
        for call in (renaming, alike):
            for wrong in no_boards():
                self.tells(NotABoard(wrong), call, wrong, ring(3))
                self.tells(NotABoard(wrong), call, ring(3), wrong)

    def test_other_size(self):
        for call in (renaming, alike):
            self.tells(OtherSize(), call, ring(3), ring(4))
            self.tells(OtherSize(), call, ring(4), ring(3))
            self.tells(OtherSize(), call, Board(1, (), ()), Board(2, (), ()))

    def test_more_than_five_buttons(self):
        self.gives(True, alike, with_buttons(5), with_buttons(5))
        self.gives(((0, 1, 2), ("a", "b", "c", "d", "e")), renaming, with_buttons(5), with_buttons(5))
        for call in (renaming, alike):
            for one, other in ((6, 6), (6, 5), (5, 6), (8, 0), (0, 8), (7, 6)):
                self.tells(TooMany(5), call, with_buttons(one), with_buttons(other))
            self.tells(OtherSize(), call, with_buttons(6), with_buttons(6, 4))
            self.tells(OtherSize(), call, with_buttons(8), with_buttons(0, 4))

    def test_order_of_errors(self):
        for call in (renaming, alike):
            self.tells_in_order(call, (ring(3), ring(3)), (0, None, NotABoard(None)), (1, "3", NotABoard("3")),
                                (1, with_buttons(6, 4), OtherSize()), (1, with_buttons(6), TooMany(5)))
            self.tells_in_order(call, (ring(3), ring(3)), (0, 3, NotABoard(3)),
                                (1, ring(4), OtherSize()), (0, with_buttons(6), TooMany(5)))

    def test_the_boards_are_not_changed(self):
        one, other = ring_turned_over(5), ring_turned_over(5)
        before = (dict(vars(one)), dict(vars(other)))
        renaming(one, other)
        alike(one, other)
        self.assertEqual((dict(vars(one)), dict(vars(other))), before)


if __name__ == "__main__":
    unittest.main()
