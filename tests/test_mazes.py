"""Tests of seatbuttons.mazes against going through all tuples of turns."""

import itertools
import random
import unittest

from seatbuttons.boards import Board
from seatbuttons.errors import Impossible, InvalidLooks, InvalidNames, NotABoard, NotAMaze, TooMany
from seatbuttons.mazes import Maze, count_guesses, guesses, sure_turns
from seatbuttons.riddles import Riddle, count_fits, fit_at

from tests.groups import ring, whole
from tests.riddling import a_row, a_standing, behind_row
from tests.support import NO_VALUES, Telling, all_turns, nested, no_boards, wrong_standings

WHEEL = Board(4, (("r", (1, 2, 3, 0)),), ())
LOOK = ("aabb", (("h", 2), ("r", 1), ("h", -12)), "abab")
NUMBERS = [1, -1, 2, -3, 10 ** 30, -10 ** 30]
HIDDEN = [number for number in range(-12, 13) if number != 0]


def a_look(rng, board, hidden, is_so):
    """A look as it is with these turns of hidden buttons, or one that may be otherwise."""
    row = list(a_row(rng, board, NUMBERS))
    for _ in range(rng.randrange(5)):
        row.insert(rng.randrange(len(row) + 1), (rng.choice(list(hidden)), rng.choice(HIDDEN)))
    before = a_standing(rng, board.size)
    after = behind_row(board, hidden, row, before) if is_so else "".join(rng.sample(before, board.size))
    return before, tuple(row), after


def model(maze):
    """All guesses that fit, going through all tuples of turns."""
    found = []
    for guess in itertools.product(all_turns(maze.board.size), repeat=len(maze.names)):
        hidden = dict(zip(maze.names, guess))
        if all(behind_row(maze.board, hidden, row, before) == after for before, row, after in maze.looks):
            found.append(guess)
    return found


def some_mazes():
    rng = random.Random(70)
    boards = [Board(1, (), ()), Board(2, (), ()), ring(3), Board(3, (("i", (1, 0, 2)),), ((0, 1),)), WHEEL,
              Board(4, (), ())]
    found = []
    for board in boards:
        for names in (("h",), ("g", "h"), ("b", "zz")):
            if board.size == 4 and names == ("b", "zz"):
                continue
            found.append(Maze(board, names, ()))
            for many, how_often in ((1, 4), (2, 3), (4, 2)):
                for _ in range(how_often):
                    hidden = {name: rng.choice(all_turns(board.size)) for name in names}
                    looks = [a_look(rng, board, hidden, rng.random() < 0.9) for _ in range(many)]
                    found.append(Maze(board, names, tuple(looks)))
    return found


class Guesses(Telling):
    def check_maze(self, maze, found):
        self.gives(tuple(found), guesses, maze)
        self.gives(len(found), count_guesses, maze)
        if found:
            turns = [{guess[at] for guess in found} for at in range(len(maze.names))]
            self.gives(tuple(min(some) if len(some) == 1 else None for some in turns), sure_turns, maze)
        else:
            self.tells(Impossible(), sure_turns, maze)

    def test_small_mazes(self):
        sorts = set()
        for maze in some_mazes():
            found = model(maze)
            self.check_maze(maze, found)
            sure = {len({guess[at] for guess in found}) == 1 for at in range(len(maze.names))} if found else {None}
            sorts.add((len(maze.names), *sorted(sure, key=str)))
        # Nothing fits, nothing is sure, one of two is sure, all is sure.
        self.assertTrue({(1, None), (1, False), (1, True), (2, None), (2, False), (2, False, True),
                         (2, True)} <= sorts, sorts)

    def test_five_places(self):
        rng = random.Random(71)
        board = Board(5, (("r", (1, 2, 3, 4, 0)), ("s", (1, 0, 2, 3, 4))), ())
        for names in (("h",), ("a", "t")):
            hidden = {name: tuple(rng.sample(range(5), 5)) for name in names}
            looks = tuple(a_look(rng, board, hidden, True) for _ in range(4))
            maze = Maze(board, names, looks)
            found = guesses(maze)
            self.assertIn(tuple(hidden.values()), found)
            self.assertEqual(list(found), sorted(found))
            kept = set(found)
            for guess in itertools.islice(itertools.product(all_turns(5), repeat=len(names)), 0, None, 37):
                so = all(behind_row(board, dict(zip(names, guess)), row, before) == after for before, row,
                         after in looks)
                self.assertEqual(so, guess in kept)

    def test_free_mazes(self):
        for size, many in ((1, 1), (2, 2), (3, 6), (4, 24), (5, 120)):
            one, two = Maze(Board(size, (), ()), ("h",), ()), Maze(Board(size, (), ()), ("g", "h"), ())
            self.check_maze(one, [(turn,) for turn in all_turns(size)])
            self.check_maze(two, list(itertools.product(all_turns(size), repeat=2)))
            self.gives(many ** 2, count_guesses, two)

    def test_known_mazes(self):
        empty = Board(3, (), ())
        self.gives((((2, 0, 1),),), guesses, Maze(empty, ("h",), (("abc", (("h", 2),), "cab"),)))
        self.gives(6, count_guesses, Maze(empty, ("g", "h"), (("abc", (("g", 1), ("h", 1)), "abc"),)))
        # Three turns exchange two of three places; with all of them nothing has moved behind two presses.
        self.gives(4, count_guesses, Maze(empty, ("h",), (("abc", (("h", 2),), "abc"),)))
        self.gives(4, count_guesses, Maze(empty, ("h",), (("abc", (("h", -12), ("h", 10)), "abc"),)))
        self.gives(0, count_guesses, Maze(empty, ("h",), (("abc", (("h", 2),), "acb"),)))
        self.gives(6, count_guesses, Maze(empty, ("h",), (("abc", (("h", 12),), "abc"),)))
        self.gives((None, (0, 1, 2)), sure_turns, Maze(empty, ("g", "h"),
                                                       (("abc", (("g", 3), ("h", 7), ("g", -3)), "abc"),)))

    def test_looks_without_hidden_presses(self):
        self.gives(24, count_guesses, Maze(WHEEL, ("h",), (("abcd", (("r", 1),), "dabc"), ("ab--", (), "ab--"))))
        self.gives(0, count_guesses, Maze(WHEEL, ("h",), (("abcd", (("r", 1),), "abcd"),)))
        self.gives((), guesses, Maze(WHEEL, ("g", "h"), (("abcd", (), "abdc"),)))

    def test_as_riddles(self):
        for row in ((("h", 1),), (("r", 3), ("h", -1), ("r", 10 ** 30))):
            for before, after in (("abcd", "bcda"), ("aabb", "abab"), ("aab-", "-baa"), ("aaaa", "aaab")):
                riddle, maze = Riddle(WHEEL, "h", ((before, row, after),)), Maze(WHEEL, ("h",), ((before, row, after),))
                self.gives(tuple((fit_at(riddle, at),) for at in range(count_fits(riddle))), guesses, maze)

    def test_long_rows(self):
        rng = random.Random(72)
        row = tuple((rng.choice("rh"), rng.choice([1, -1, 5, -12])) for _ in range(2000))
        turn = (2, 0, 1, 3)
        after = behind_row(WHEEL, {"h": turn}, row, "abcd")
        found = guesses(Maze(WHEEL, ("h",), (("abcd", row, after),)))
        self.assertIn((turn,), found)
        for guess in all_turns(4):
            self.assertEqual(behind_row(WHEEL, {"h": guess}, row, "abcd") == after, (guess,) in found)

    def test_12_looks(self):
        rng = random.Random(73)
        hidden = {"g": (1, 0, 3, 2), "h": (1, 2, 0, 3)}
        looks = tuple(a_look(rng, WHEEL, hidden, True) for _ in range(12))
        maze = Maze(WHEEL, ("g", "h"), looks)
        self.check_maze(maze, model(maze))


class Objects(Telling):
    def test_properties(self):
        maze = Maze(WHEEL, ("a", "h"), (LOOK, ("----", (("a", 12),), "zzzz")))
        self.assertIs(maze.board, WHEEL)
        self.assertEqual((maze.names, maze.looks), (("a", "h"), (LOOK, ("----", (("a", 12),), "zzzz"))))
        self.assertTrue(maze)

    def test_equal_to_itself_alone(self):
        self.equals_itself_alone(Maze(WHEEL, ("h",), ()), Maze(WHEEL, ("h",), ()), WHEEL, WHEEL.text,
                                 Riddle(WHEEL, "h", ()))

    def test_all_numbers(self):
        row = tuple(("h", number) for number in HIDDEN)
        self.gives(24, count_guesses, Maze(WHEEL, ("h",), (("aaaa", row, "aaaa"),)))

    def test_nothing_is_changed(self):
        maze = Maze(WHEEL, ("g", "h"), (LOOK,))
        before = dict(vars(maze))
        self.gives(count_guesses(maze), count_guesses, maze)
        guesses(maze)
        self.assertEqual(vars(maze), before)


NO_ROWS = NO_VALUES + [0, "h", [("h", 1)], ("h", 1), (("h",),), (("h", 1, 1),), (["h", 1],), (("h", "1"),),
                       (("x", 1),), (("tie", 1),)]
NO_ROWS += [(("h", number),) for number in (0, 13, -13, 10 ** 30, -10 ** 30)] + [(("h", value),) for value in NO_VALUES]
NO_ROWS += [(("r", number), ("h", 1)) for number in (0, 10 ** 30 + 1,
                                                     -10 ** 30 - 1)] + [(("r", value),) for value in NO_VALUES]
NO_ROWS += [(("h", 1),) * 2001, (("r", 1),) * 2001, (("h", 1), None), (nested(17),), ((),)]


class Wrong(Telling):
    def test_names_of_arguments(self):
        self.takes(Maze, "board", "names", "looks")
        for call in (guesses, count_guesses, sure_turns):
            self.takes(call, "maze")

    def test_no_mazes(self):
        for wrong in no_boards() + [WHEEL, Riddle(WHEEL, "h", ()), (WHEEL, ("h",), ())]:
            for call in (guesses, count_guesses, sure_turns):
                self.tells(NotAMaze(wrong), call, wrong)

    def test_wrong_boards(self):
        for wrong in no_boards():
            self.tells(NotABoard(wrong), Maze, wrong, ("h",), ())

    def test_wrong_names(self):
        for wrong in NO_VALUES + [0, (), "h", ["h"], {"h": 1}]:
            self.tells(InvalidNames(None), Maze, WHEEL, wrong, ())
        some = [value for value in NO_VALUES if not isinstance(value,
                                                               str)] + [0, (), ("h",), "", "tie", "r", "H", "abcdefghi", "h "]
        for wrong in some:
            self.tells(InvalidNames(0), Maze, WHEEL, (wrong,), ())
            self.tells(InvalidNames(0), Maze, WHEEL, (wrong, wrong), ())
            self.tells(InvalidNames(1), Maze, WHEEL, ("h", wrong), ())
            self.tells(InvalidNames(1), Maze, WHEEL, ("a", wrong, "z"), ())
        for wrong in ("h", "g", "a"):
            self.tells(InvalidNames(1), Maze, WHEEL, ("h", wrong), ())
        self.tells(InvalidNames(2), Maze, WHEEL, ("a", "b", "c"), ())
        self.tells(InvalidNames(2), Maze, WHEEL, ("a", "b", None, None), ())
        self.tells(InvalidNames(1), Maze, WHEEL, ("b", "a", "c"), ())
        self.assertEqual(Maze(WHEEL, ("h", "hh"), ()).names, ("h", "hh"))

    def test_wrong_looks(self):
        for wrong in NO_VALUES + [0, "", [LOOK], {"a": LOOK}]:
            self.tells(InvalidLooks(None), Maze, WHEEL, ("h",), wrong)
        wrong_ones = NO_VALUES + [0, (), LOOK[:2], LOOK + (1,), list(LOOK), "aabb", (LOOK,), nested(19)]
        wrong_ones += [(standing, (), "abab") for standing in wrong_standings(4)[:-1]]
        wrong_ones += [("abab", (), standing) for standing in wrong_standings(4)[:-1]]
        wrong_ones += [("aabb", row, "abab") for row in NO_ROWS]
        for wrong in wrong_ones:
            self.tells(InvalidLooks(0), Maze, WHEEL, ("h",), (wrong,))
            self.tells(InvalidLooks(1), Maze, WHEEL, ("g", "h"), (LOOK, wrong, LOOK, wrong))
        self.tells(InvalidLooks(0), Maze, WHEEL, ("g",), (LOOK,))

    def test_thirteen_looks(self):
        self.tells(InvalidLooks(12), Maze, WHEEL, ("h",), (LOOK,) * 13)
        self.tells(InvalidLooks(12), Maze, WHEEL, ("h",), (LOOK,) * 12 + (None,))
        self.tells(InvalidLooks(3), Maze, WHEEL, ("h",), (LOOK,) * 3 + (None,) * 20)
        self.assertEqual(len(Maze(WHEEL, ("h",), (LOOK,) * 12).looks), 12)

    def test_six_places(self):
        for size in (6, 7, 24):
            self.tells(TooMany(5), Maze, Board(size, (), ()), ("h",), ())
        self.assertEqual(Maze(whole(5), ("h",), ()).board.size, 5)

    def test_order_of_errors(self):
        self.tells_in_order(Maze, (WHEEL, ("h",), ()), (0, 1, NotABoard(1)), (1, (), InvalidNames(None)),
                            (2, (1,), InvalidLooks(0)))
        six = Board(6, (), ())
        self.tells_in_order(Maze, (WHEEL, ("h",), ()), (1, ("tie",), InvalidNames(0)), (2, (None,), InvalidLooks(0)),
                            (0, six, TooMany(5)))


if __name__ == "__main__":
    unittest.main()
