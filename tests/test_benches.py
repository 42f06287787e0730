"""Tests of seatbuttons.benches against an own model that moves the things one by one."""

import random
import unittest

from seatbuttons.benches import Bench
from seatbuttons.boards import Board
from seatbuttons.errors import InvalidDeeds, InvalidNumber, InvalidPlace, InvalidRow, InvalidStanding, NoSlide, NotABoard
from seatbuttons.errors import NothingToUndo, UnknownName

from tests.groups import whole
from tests.riddling import power_of
from tests.support import NO_INTEGERS, NO_PLACES, NO_VALUES, Telling, nested, no_boards, wrong_standings

MIXED = Board(4, (("a", (0, 2, 1, 3)),), ((0, 1), (0, 3), (1, 2), (2, 3)))
TWO = Board(5, (("cd", (1, 2, 3, 4, 0)), ("b", (1, 0, 2, 4, 3))), ((0, 4), (1, 3), (2, 3)))
NUMBERS = [1, -1, 2, -2, 3, 7, -11, 10 ** 30, -10 ** 30, 10 ** 29 + 1]


class Model:
    """What a bench does, by the words of the document: things on places, and a list of what was done."""

    def __init__(self, board, standing):
        self.board = board
        self.things = list(standing)
        self.done = []

    def turn_about(self, name, number):
        turn, things = power_of(self.board.turn(name), number), list(self.things)
        for place, goal in enumerate(turn):
            self.things[goal] = things[place]

    def do(self, deed):
        """Does a deed that can be done, and tells whether it was one."""
        self.done.append((list(self.things), deed))
        if deed[0] == "slide":
            _, place, goal = deed
            if not self.can_slide(place, goal):
                self.done.pop()
                return False
            self.things[goal], self.things[place] = self.things[place], "-"
            return True
        for name, number in deed[1] if deed[0] == "do" else [deed[1:]]:
            self.turn_about(name, number)
        return True

    def can_slide(self, place, goal):
        tied = tuple(sorted((place, goal))) in self.board.ties
        return tied and self.things[goal] == "-" and self.things[place] != "-"

    def undo(self):
        self.things, _ = self.done.pop()

    def shown(self):
        return "".join(self.things), tuple(deed for _, deed in self.done), len(self.done)


def shown(bench):
    return bench.standing, bench.deeds, bench.changes


def a_deed(rng, board):
    """Any deed, also one that cannot be done."""
    word = rng.choice(["press", "press", "do", "slide", "slide", "slide", "slide"])
    if word == "slide" or not board.names:
        return ("slide", rng.randrange(board.size), rng.randrange(board.size))
    if word == "press":
        return ("press", rng.choice(board.names), rng.choice(NUMBERS))
    return ("do", tuple((rng.choice(board.names), rng.choice(NUMBERS)) for _ in range(rng.randrange(4))))


def do_on(bench, deed):
    """Does a deed by the bench's own methods."""
    if deed[0] == "press":
        return bench.press(deed[1], deed[2])
    if deed[0] == "do":
        return bench.do(deed[1])
    return bench.slide(deed[1], deed[2])


BENCHES = [(MIXED, "-abc"), (MIXED, "--ab"), (MIXED, "aaa-"), (MIXED, "abcd"), (TWO, "a-b-a"), (TWO, "--z--"),
           (Board(3, (), ((0, 1), (1, 2))), "ab-"), (Board(1, (("a", (0,)),), ()), "-"), (Board(2, (), ()), "--")]


class Deeds(Telling):
    def test_against_the_model(self):
        for seed, (board, standing) in enumerate(BENCHES * 3):
            rng = random.Random(80 + seed)
            bench, model = Bench(board, standing), Model(board, standing)
            for _ in range(60):
                deed = a_deed(rng, board)
                if rng.random() < 0.25 and model.done:
                    self.assertIsNone(bench.undo())
                    model.undo()
                elif deed[0] == "slide" and not model.can_slide(deed[1], deed[2]):
                    self.tells(NoSlide(), bench.slide, deed[1], deed[2])
                else:
                    self.assertIsNone(do_on(bench, deed))
                    self.assertTrue(model.do(deed))
                self.assertEqual(shown(bench), model.shown())
            self.take_all_back(bench, model)
            self.assertEqual(shown(bench), (standing, (), 0))

    def take_all_back(self, bench, model):
        while model.done:
            bench.undo()
            model.undo()
            self.assertEqual(shown(bench), model.shown())
        self.tells(NothingToUndo(), bench.undo)

    def test_play(self):
        for seed, (board, standing) in enumerate(BENCHES * 4):
            rng = random.Random(180 + seed)
            bench, model = Bench(board, standing), Model(board, standing)
            for _ in range(20):
                deeds = tuple(a_deed(rng, board) for _ in range(rng.choice([0, 1, 1, 2, 3])))
                tried, at = Model(board, "".join(model.things)), None
                for index, deed in enumerate(deeds):
                    if at is None and not tried.do(deed):
                        at = index
                if at is None:
                    self.assertIsNone(bench.play(deeds))
                    for deed in deeds:
                        model.do(deed)
                else:
                    self.tells(InvalidDeeds(at), bench.play, deeds)
                self.assertEqual(shown(bench), model.shown())
            self.take_all_back(bench, model)

    def test_deeds_can_be_played_again(self):
        rng = random.Random(81)
        for board, standing in BENCHES:
            bench = Bench(board, standing)
            for _ in range(40):
                deed = a_deed(rng, board)
                if deed[0] != "slide" or Model(board, bench.standing).can_slide(deed[1], deed[2]):
                    do_on(bench, deed)
            other = Bench(board, standing)
            other.play(bench.deeds)
            self.assertEqual(shown(other), shown(bench))

    def test_known_deeds(self):
        bench = Bench(MIXED, "-abc")
        bench.press("a", 3)
        self.assertEqual(bench.standing, "-bac")
        bench.slide(1, 0)
        self.assertEqual(bench.standing, "b-ac")
        bench.do((("a", 1),))
        self.assertEqual(bench.standing, "ba-c")
        self.assertEqual(bench.deeds, (("press", "a", 3), ("slide", 1, 0), ("do", (("a", 1),))))
        bench.undo()
        self.assertEqual((bench.standing, bench.changes), ("b-ac", 2))
        bench.play((("slide", 2, 1), ("press", "a", 1)))
        self.assertEqual((bench.standing, bench.changes), ("b-ac", 4))
        self.tells(NoSlide(), bench.slide, 3, 1)

    def test_what_changes_nothing_is_a_change(self):
        bench = Bench(MIXED, "-abc")
        bench.do(())
        bench.press("a", 10 ** 30)
        bench.do((("a", 1), ("a", -1)))
        self.assertEqual(shown(bench), ("-abc", (("do", ()), ("press", "a", 10 ** 30), ("do", (("a", 1), ("a", -1)))),
                                        3))
        bench.play(())
        self.assertEqual(bench.changes, 3)

    def test_slides_both_ways(self):
        bench = Bench(Board(3, (), ((0, 2),)), "--a")
        bench.slide(2, 0)
        self.assertEqual(bench.standing, "a--")
        bench.slide(place=0, goal=2)
        self.assertEqual(bench.standing, "--a")
        self.tells(NoSlide(), bench.slide, 0, 2)
        self.tells(NoSlide(), bench.slide, 2, 1)
        self.tells(NoSlide(), bench.slide, 2, 2)
        self.tells(NoSlide(), bench.slide, 1, 1)

    def test_arguments_by_name(self):
        bench = Bench(standing="-abc", board=MIXED)
        bench.press(number=1, name="a")
        bench.do(row=(("a", 1),))
        bench.slide(goal=0, place=1)
        bench.play(deeds=(("press", "a", -1),))
        self.assertEqual(shown(bench), ("ab-c", (("press", "a", 1), ("do", (("a", 1),)), ("slide", 1, 0), ("press", "a", -1)), 4))

    def test_many_changes(self):
        bench = Bench(whole(24), "a" * 23 + "-")
        row = (("a", 10 ** 30), ("b", -1)) * 1000
        for _ in range(3):
            bench.do(row)
        for at in range(500):
            bench.press("b", at + 1)
        self.assertEqual((bench.changes, len(bench.deeds)), (503, 503))
        self.assertEqual(bench.deeds[:3], (("do", row),) * 3)
        for _ in range(503):
            bench.undo()
        self.assertEqual(shown(bench), ("a" * 23 + "-", (), 0))

    def test_properties(self):
        bench = Bench(MIXED, "-abc")
        self.assertIs(bench.board, MIXED)
        self.assertTrue(bench)
        self.equals_itself_alone(bench, Bench(MIXED, "-abc"), MIXED, "-abc", bench.trial())
        self.assertEqual(shown(bench), ("-abc", (), 0))


class Stop(Exception):
    pass


class Trials(Telling):
    def a_bench(self):
        bench = Bench(MIXED, "-abc")
        bench.press("a", 1)
        bench.slide(1, 0)
        return bench, shown(bench)

    def test_a_trial_that_ends(self):
        bench, before = self.a_bench()
        with bench.trial() as inner:
            self.assertIs(inner, bench)
            bench.press("a", 1)
            inner.undo()
            inner.undo()
            inner.do((("a", 5),))
            self.assertEqual(bench.changes, 2)
        self.assertEqual(shown(bench), before)
        bench.undo()
        self.assertEqual(shown(bench), ("-bac", (("press", "a", 1),), 1))

    def test_a_trial_that_takes_all_back(self):
        bench, before = self.a_bench()
        with bench.trial():
            bench.undo()
            bench.undo()
            self.tells(NothingToUndo(), bench.undo)
        self.assertEqual(shown(bench), before)

    def test_exceptions_are_passed_on(self):
        bench, before = self.a_bench()
        with self.assertRaises(Stop):
            with bench.trial():
                bench.undo()
                raise Stop()
        self.assertEqual(shown(bench), before)
        with self.assertRaises(NoSlide):
            with bench.trial():
                bench.press("a", 1)
                bench.slide(0, 2)
        self.assertEqual(shown(bench), before)

    def test_rows_that_are_left(self):
        bench, before = self.a_bench()
        for _ in range(3):
            with bench.trial():
                bench.press("a", 1)
                break
        self.assertEqual(shown(bench), before)

    def test_trials_within_one_another(self):
        bench, before = self.a_bench()
        with bench.trial():
            bench.press("a", 2)
            between = shown(bench)
            with bench.trial():
                bench.undo()
                bench.undo()
            self.assertEqual(shown(bench), between)
            with self.assertRaises(Stop):
                with bench.trial():
                    bench.press("a", 7)
                    raise Stop()
            self.assertEqual(shown(bench), between)
        self.assertEqual(shown(bench), before)

    def test_a_trial_is_used_again(self):
        bench, _ = self.a_bench()
        trial = bench.trial()
        bench.press("a", 1)
        before = shown(bench)
        for _ in range(2):
            with trial as inner:
                inner.undo()
                inner.undo()
                between = shown(bench)
                with trial:
                    bench.press("a", 3)
                    with trial:
                        bench.press("a", 3)
                        self.assertEqual(bench.changes, 3)
                    self.assertEqual(bench.changes, 2)
                self.assertEqual(shown(bench), between)
            self.assertEqual(shown(bench), before)
        bench.undo()
        later = shown(bench)
        with trial:
            bench.press("a", 1)
        self.assertEqual(shown(bench), later)

    def test_a_trial_that_is_not_used(self):
        bench, _ = self.a_bench()
        bench.trial()
        bench.press("a", 1)
        self.assertEqual(bench.changes, 3)

    def test_tried(self):
        bench, before = self.a_bench()
        self.assertEqual(bench.tried(lambda inner: (inner is bench, inner.press("a", 1), inner.standing)),
                         (True, None, "ba-c"))
        self.assertEqual(shown(bench), before)
        self.assertIsNone(bench.tried(action=lambda inner: inner.undo()))
        self.assertEqual(shown(bench), before)

        def stop(inner):
            inner.undo()
            raise Stop()

        self.assertRaises(Stop, bench.tried, stop)
        self.assertEqual(shown(bench), before)
        self.raised(NoSlide, bench.tried, lambda inner: (inner.press("a", 1), inner.slide(0, 0)))
        self.assertEqual(shown(bench), before)
        found = bench.tried(lambda inner: (inner.press("a", 1),
                                           inner.tried(lambda one: (one.undo(), one.undo(), one.changes)),
                                           inner.changes))
        self.assertEqual(found, (None, (None, None, 1), 3))
        self.assertEqual(shown(bench), before)


# None of these is a deed that can be done on the mixed board with "-abc".
NO_DEEDS = NO_VALUES + [0, (), ("press",), ("press", "a"), ("press", "a", 1, 1), ["press", "a", 1], ("Press", "a", 1),
                        ("a", 1)]
NO_DEEDS += [("press", "a", 0), ("press", "b", 1), ("press", "a", 10 ** 30 + 1), ("press", ("a", 1)),
             ("press", 1, "a"), ("slide", 1, 0, 1)]
NO_DEEDS += [("press", "a", value) for value in NO_VALUES] + [("press", value,
                                                               1) for value in NO_VALUES if not isinstance(value, str)]
NO_DEEDS += [("slip", 1, 0), ("press", 1, 0), ("do", 1, 0), ("", 1, 0), ("slides", 1, 0)]
NO_DEEDS += [("do",), ("do", "a"), ("do", [("a", 1)]), ("do", (("a", 1),), 1), ("do", (("b", 1),)), ("do", ("a", 1)),
             ("do", (("a", 0),))]
NO_DEEDS += [("do", (("a", 1),) * 2001), ("undo",), ("play", ()), ("slide",), ("slide", 1), ("slide", 0, 1),
             ("slide", 2, 0), ("slide", 1, 2)]
NO_DEEDS += [("slide", 0, 0), ("slide", 1, 1), ("slide", -3, 0), ("slide", 1, 4), ("slide", 5, 0), (1, 1, 0),
             (("slide",), 1, 0), nested(19)]
NO_DEEDS += [("slide", value, 0) for value in NO_PLACES] + [("slide", 1,
                                                             value) for value in NO_PLACES] + [("do", value) for value in NO_VALUES]
NO_DEEDS += [(value, "a", 1) for value in NO_VALUES] + [("slide", True, 0), ("slide", 1, False), (b"slide", 1, 0)]


class Wrong(Telling):
    def setUp(self):
        self.bench = Bench(MIXED, "-abc")
        self.bench.press("a", 2)
        self.before = shown(self.bench)

    def tearDown(self):
        self.assertEqual(shown(self.bench), self.before)

    def test_names_of_arguments(self):
        self.takes(Bench, "board", "standing")
        self.takes(self.bench.press, "name", "number")
        self.takes(self.bench.do, "row")
        self.takes(self.bench.slide, "place", "goal")
        self.takes(self.bench.play, "deeds")
        self.takes(self.bench.undo)
        self.takes(self.bench.trial)
        self.takes(self.bench.tried, "action")

    def test_wrong_benches(self):
        for wrong in no_boards():
            self.tells(NotABoard(wrong), Bench, wrong, "-")
        for wrong in wrong_standings(4):
            self.tells(InvalidStanding(wrong), Bench, MIXED, wrong)
        self.tells_in_order(Bench, (MIXED, "-abc"), (0, 1, NotABoard(1)), (1, "", InvalidStanding("")))

    def test_wrong_presses(self):
        for wrong in [value for value in NO_VALUES if not isinstance(value,
                                                                     str)] + ["", "b", "A", "tie", "aa", 0, (), ("a",)]:
            self.tells(UnknownName(wrong), self.bench.press, wrong, 1)
        for wrong in NO_INTEGERS + [0, 10 ** 30 + 1, -10 ** 30 - 1]:
            self.tells(InvalidNumber(wrong), self.bench.press, "a", wrong)
        self.tells_in_order(self.bench.press, ("a", 10 ** 30), (0, "b", UnknownName("b")), (1, 0, InvalidNumber(0)))

    def test_wrong_rows(self):
        for wrong in NO_VALUES + [0, "a", [("a", 1)], {"a": 1}]:
            self.tells(InvalidRow(None), self.bench.do, wrong)
        for wrong in NO_VALUES + [0, (), ("a",), ("a", 0), ["a", 1], ("b", 1), ("a", True), ("a", 10 ** 30 + 1),
                                  ("a", 1, 1)]:
            self.tells(InvalidRow(0), self.bench.do, (wrong,))
            self.tells(InvalidRow(1), self.bench.do, (("a", 1), wrong, wrong))
        self.tells(InvalidRow(2000), self.bench.do, (("a", 1),) * 2001)

    def test_wrong_slides(self):
        for wrong in NO_PLACES + [4, 5]:
            self.tells(InvalidPlace(wrong), self.bench.slide, wrong, 0)
            self.tells(InvalidPlace(wrong), self.bench.slide, 1, wrong)
        self.tells(NoSlide(), self.bench.slide, 0, 1)
        self.tells(NoSlide(), self.bench.slide, 1, 2)
        self.tells(NoSlide(), self.bench.slide, 2, 0)
        self.tells_in_order(self.bench.slide, (2, 3), (0, 4, InvalidPlace(4)), (1, -1, InvalidPlace(-1)),
                            (1, 0, NoSlide()))

    def test_wrong_deeds(self):
        for wrong in NO_VALUES + [0, "slide", [("slide", 1, 0)], {("slide", 1, 0): 1}]:
            self.tells(InvalidDeeds(None), self.bench.play, wrong)
        for wrong in NO_DEEDS:
            self.tells(InvalidDeeds(0), self.bench.play, (wrong,))
            self.tells(InvalidDeeds(2), self.bench.play, (("slide", 3, 0), ("slide", 0, 3), wrong, None))
        self.tells(InvalidDeeds(1), self.bench.play, (("slide", 1, 0), ("slide", 1, 0)))
        self.tells(InvalidDeeds(2), self.bench.play, (("slide", 1, 0), ("press", "a", 1), ("slide", 2, 0),
                                                      ("slide", 0, 2)))


if __name__ == "__main__":
    unittest.main()
