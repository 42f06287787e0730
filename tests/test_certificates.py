"""Tests of seatbuttons.certificates: what is so is claimed, with a paper that the checker accepts."""

import itertools
import math
import random
import unittest
from unittest import mock

from seatbuttons.boards import Board
from seatbuttons.certificates import certify_alike, certify_block, certify_fewest, certify_goes, certify_inside
from seatbuttons.certificates import certify_led, certify_order, certify_reached, certify_ring, certify_spread
from seatbuttons.certificates import certify_steps, certify_sure, certify_together, certify_within
from seatbuttons.chains import order, within
from seatbuttons.checker import accepts
from seatbuttons.errors import Impossible, InvalidKind, InvalidPlace, InvalidPlaces, InvalidStanding, InvalidTurn
from seatbuttons.errors import NotABoard, NotARiddle, NotInside, OtherSize, TooMany
from seatbuttons.fewest import fewest, spread
from seatbuttons.kinds import all_kinds
from seatbuttons.likeness import alike
from seatbuttons.places import reaches
from seatbuttons.riddles import Riddle, count_fits, goals
from seatbuttons.standings import all_reached, row_between
from seatbuttons.turns import turn_of
from seatbuttons.yards import fewest_steps

from tests.groups import apart, board_of, evens, just_20000, just_5000, little_cube, mathieu, pairs_kept, ring, ring_turned_over
from tests.groups import six_places, small_boards, turns_of, whole
from tests.papers import is_shown, is_so
from tests.support import NO_PLACES, NO_VALUES, Telling, all_turns, nested, no_boards, staying, wrong_kinds
from tests.support import wrong_standings, wrong_turns
from tests.test_riddles import RIDDLES
from tests.test_yards import GRID, MIXED, SEVEN, YARD, around, in_rows

OTHER_WORDS = {"inside": "outside", "led": "not led", "block": "no block", "within": "not within",
               "together": "not together",
               "goes": "never", "ring": "no ring"}
OTHER_WORDS.update({other: word for word, other in OTHER_WORDS.items()})
SQUARE = Board(4, (("f", (1, 0, 3, 2)), ("r", (1, 2, 3, 0))), ())
GREAT = [whole(24), evens(24), ring(24), ring_turned_over(24), pairs_kept(12), apart(6, 6, 12), mathieu(),
         little_cube(),
         Board(24, (), ()), just_20000()]


def few_boards():
    return small_boards()[::3] + [Board(1, (("a", (0,)),), ()), board_of((0, 1, 2), (1, 2, 0)),
                                  Board(4, SQUARE.buttons, ((0, 1),))]


class Certified(Telling):
    def check(self, told, *words):
        """A claim with one of these words, and its paper, that the checker accepts."""
        self.assertIs(type(told), tuple)
        claim, paper = told
        self.assertIn(claim[0], words)
        self.assertIs(accepts(claim, paper), True, claim)
        if claim[0] in OTHER_WORDS:
            self.assertIs(accepts((OTHER_WORDS[claim[0]],) + claim[1:], paper), False, claim)
        return claim

    def check_few(self, call, *arguments):
        """What is certified of a few places: the claim is so, and the paper shows it, by the words of the document."""
        claim, paper = self.certified(call, *arguments)
        self.assertTrue(is_so(claim), claim)
        self.assertTrue(is_shown(claim, paper), claim)
        return claim

    def certified(self, call, *arguments):
        told = call(*arguments)
        self.gives(told, call, *arguments)
        self.check(told, *OTHER_WORDS, "order", "alike", "reached", "steps", "fewest", "spread", "sure")
        return told


class FewPlaces(Certified):
    def test_inside_and_order(self):
        for board in few_boards():
            turns = turns_of(board)
            self.assertEqual(self.check_few(certify_order, board), ("order", board.text, len(turns)))
            for turn in all_turns(board.size)[::1 if board.size < 4 else 7]:
                word = "inside" if turn in turns else "outside"
                self.assertEqual(self.check_few(certify_inside, board, turn), (word, board.text, turn))

    def test_led(self):
        for board in few_boards() + six_places():
            for place, goal in itertools.product(range(board.size), repeat=2):
                reach = [some for some in reaches(board) if place in some][0]
                claim, paper = self.certified(certify_led, board, place, goal)
                self.assertEqual(claim, ("led" if goal in reach else "not led", board.text, place, goal))
                if goal not in reach:
                    self.assertEqual(paper, reach)
                self.assertTrue(is_shown(claim, paper))

    def test_block(self):
        met = set()
        for board in few_boards() + six_places():
            for many in range(1, board.size + 1):
                for places in list(itertools.combinations(range(board.size), many))[::1 if board.size < 6 else 3]:
                    claim, paper = self.certified(certify_block, board, places)
                    self.assertEqual(claim[1:], (board.text, places))
                    if board.size < 6:
                        self.assertTrue(is_so(claim) and is_shown(claim, paper), claim)
                    met.add((claim[0], paper != () and isinstance(paper[0], int)))
        # What is no block is shown by a row, or by two places with unlike reaches.
        self.assertEqual(met, {("block", False), ("no block", False), ("no block", True)})

    def test_within_and_alike(self):
        for size in (1, 2, 3, 4):
            boards = [board for board in few_boards() if board.size == size][::1 if size < 3 else 4]
            for one, other in itertools.product(boards, repeat=2):
                claim = self.check_few(certify_within, one, other)
                self.assertEqual(claim[1:], (one.text, other.text))
                if alike(one, other):
                    self.assertEqual(self.check_few(certify_alike, one, other), ("alike", one.text, other.text))
                else:
                    self.gives(None, certify_alike, one, other)

    def test_together(self):
        for board in few_boards():
            for turn in all_turns(board.size)[::1 if board.size < 4 else 5]:
                claim = self.check_few(certify_together, board, turn)
                self.assertEqual(claim[1:], (board.text, turn))

    def test_goes_and_reached(self):
        for board in few_boards()[::2]:
            standings = ["aab-"[:board.size].ljust(board.size, "b"), "abcde"[:board.size], "-" * board.size, "ba" * 3]
            standings = [standing[:board.size] for standing in standings]
            for one in standings:
                reached = all_reached(board, one)
                claim = self.check_few(certify_reached, board, one)
                self.assertEqual(claim, ("reached", board.text, one, len(reached)))
                for other in [*standings, reached[-1]]:
                    claim, paper = self.certified(certify_goes, board, one, other)
                    self.assertTrue(is_so(claim) and is_shown(claim, paper))
                    self.assertEqual(claim, ("goes" if other in reached else "never", board.text, one, other))

    def test_steps(self):
        for board in (YARD, MIXED, Board(4, (), ((0, 1), (2, 3))), Board(3, (("a", (1, 2, 0)),), ()), Board(1, (), ())):
            standings = sorted({"".join(some) for some in itertools.permutations("-abc"[:board.size])})
            for one, other in itertools.product(standings, repeat=2):
                many = fewest_steps(board, one, other)
                if many is None:
                    self.gives(None, certify_steps, board, one, other)
                else:
                    claim, paper = self.certified(certify_steps, board, one, other)
                    self.assertEqual((claim, len(paper)), (("steps", board.text, one, other), many))
                    self.assertTrue(is_so(claim) and is_shown(claim, paper))

    def test_fewest_and_spread(self):
        for board in few_boards()[::2]:
            claim = self.check_few(certify_spread, board)
            self.assertEqual(claim, ("spread", board.text, spread(board)))
            for turn in turns_of(board)[::3]:
                claim = self.check_few(certify_fewest, board, turn)
                self.assertEqual(claim, ("fewest", board.text, turn, fewest(board, turn)))

    def test_ring(self):
        for size in range(1, 6):
            for one, other in itertools.product(all_kinds(size), repeat=2):
                self.assertEqual(self.check_few(certify_ring, one, other)[1:], (one, other))

    def test_sure(self):
        sure = 0
        for riddle, fit in RIDDLES[::2]:
            for place in range(riddle.size):
                led = {turn[place] for turn in fit}
                if not fit:
                    self.tells(Impossible(), certify_sure, riddle, place)
                elif len(led) > 1:
                    self.gives(None, certify_sure, riddle, place)
                else:
                    claim = self.check_few(certify_sure, riddle, place)
                    self.assertEqual(claim, ("sure", riddle.board.text, riddle.name, riddle.looks, place, led.pop()))
                    sure += 1
        self.assertGreater(sure, 50)


class ManyPlaces(Certified):
    def test_turns(self):
        rng = random.Random(90)
        for board in GREAT:
            self.assertEqual(self.check(certify_order(board), "order")[2], order(board))
            some = [tuple(rng.sample(range(board.size), board.size)), staying(board.size),
                    *[turn for _, turn in board.buttons]]
            for turn in some:
                self.check(certify_inside(board, turn), "inside", "outside")
                self.check(certify_together(board, turn), "together", "not together")
            for goal in range(board.size):
                self.check(certify_led(board, 1, goal), "led", "not led")

    def test_blocks(self):
        rng = random.Random(91)
        met = set()
        for board in GREAT:
            lots = [tuple(sorted(rng.sample(range(board.size), many))) for many in (1, 2, 3, 6, 12, board.size)]
            lots += [(0, 1), tuple(range(board.size)), tuple(range(0, board.size, 2)), tuple(range(1, board.size)),
                     (0, 12)]
            for places in lots:
                claim, paper = certify_block(board, places)
                met.add(self.check((claim, paper), "block", "no block")[0])
                self.assertLessEqual(len(paper), 2000)
        self.assertEqual(met, {"block", "no block"})

    def test_boards(self):
        for one, other in itertools.product(GREAT, repeat=2):
            if one.size == other.size:
                claim = self.check(certify_within(one, other), "within", "not within")
                self.assertEqual(claim[0] == "within", within(one, other))
        self.check(certify_within(evens(24), whole(24)), "within")
        self.check(certify_within(whole(24), evens(24)), "not within")
        self.check(certify_within(ring(24), whole(24)), "within")
        self.check(certify_alike(whole(24), whole(24)), "alike")
        self.check(certify_alike(Board(24, (), ()), Board(24, (), ())), "alike")
        self.gives(None, certify_alike, whole(24), evens(24))

    def test_standings(self):
        board = ring_turned_over(24)
        for other in ("b" + "a" * 23, "a" * 23 + "b", "ab" * 12, "-" * 24):
            self.check(certify_goes(board, "b" + "a" * 23, other), "goes", "never")
        things = "abcdefghijklmnopqrstuvwx"
        self.assertEqual(self.check(certify_reached(board, things), "reached")[3], 48)
        self.assertEqual(self.check(certify_reached(whole(24), "bbb" + "a" * 21), "reached")[3], math.comb(24, 3))
        self.check(certify_goes(whole(24), "bbb" + "a" * 21, "a" * 21 + "bbb"), "goes")
        self.check(certify_goes(whole(24), "bbb" + "a" * 21, "a" * 20 + "bbbb"), "never")
        self.check(certify_goes(Board(24, (), ()), things, things), "goes")
        self.check(certify_goes(Board(24, (), ()), things, things[::-1]), "never")

    def test_steps(self):
        things = "-abcdefghijklmnopqrstuvw"
        self.check(certify_steps(Board(24, (), around(24)), things, things[5:] + things[:5]), "steps")
        self.check(certify_steps(in_rows(4, 6), "-" + "a" * 22 + "b", "b" + "a" * 22 + "-"), "steps")
        self.gives(None, certify_steps, in_rows(1, 24), things, things[:-2] + "wv")
        self.check(certify_steps(GRID, "-abcde", "abdec-"), "steps")
        self.gives(None, certify_steps, SEVEN, "-abcdef", "-bacdef")

    def test_layers(self):
        for board in (ring(24), ring_turned_over(24), apart(2, 3, 4), whole(6),
                      board_of(*[turn_of(24, ((at, at + 1),)) for at in range(0, 16, 2)])):
            self.assertEqual(self.check(certify_spread(board), "spread")[2], spread(board))
            for _, turn in board.buttons:
                self.assertEqual(self.check(certify_fewest(board, turn), "fewest")[3], fewest(board, turn))

    def test_rings(self):
        rng = random.Random(92)
        kinds = all_kinds(24)
        for _ in range(60):
            self.check(certify_ring(rng.choice(kinds), rng.choice(kinds)), "ring", "no ring")
        self.check(certify_ring((24,), (24,)), "no ring")
        self.check(certify_ring((24,), (1,) * 24), "ring")
        self.check(certify_ring((12, 12), (12, 12)), "no ring")
        self.check(certify_ring((23, 1), (23, 1)), "no ring")
        self.check(certify_ring((22, 1, 1), (23, 1)), "ring")

    def test_sure(self):
        things = "abcdefghijklmnopqrstuvwx"
        riddle = Riddle(whole(24), "h", ((things, (("a", 1), ("h", -1)), things[::-1]),
                                         ("a" * 24, (("h", 1),), "a" * 24)))
        for place in range(24):
            claim = self.check(certify_sure(riddle, place), "sure")
            self.assertEqual(claim[4:], (place, goals(riddle, place)[0]))
        dim = Riddle(whole(24), "h", (("b" + "a" * 23, (("h", 1),), "a" * 23 + "b"),))
        self.assertEqual(self.check(certify_sure(dim, 0), "sure")[4:], (0, 23))
        self.gives(None, certify_sure, dim, 1)
        self.assertEqual(count_fits(dim), math.factorial(23))


class Bounds(Certified):
    def test_5000_standings(self):
        # Seven unlike things: 5040 standings; six unlike ones among seven: 2520.
        board = whole(7)
        for other in ("abcdefg", "gfedcba", "aaaaaaa"):
            self.tells(TooMany(5000), certify_goes, board, "abcdefg", other)
            self.check(certify_goes(board, "aacdefg", other), "never")
        self.tells(TooMany(5000), certify_reached, board, "abcdefg")
        self.assertEqual(self.check(certify_reached(board, "aabcdef"), "reached")[3], 2520)
        self.check(certify_goes(board, "aabcdef", "fedcbaa"), "goes")
        self.tells(TooMany(5000), certify_goes, whole(24), "abcdefghijklmnopqrstuvwx", "a" * 24)

    def test_just_5000_standings(self):
        for call, rest in ((certify_goes, ("abab",)), (certify_reached, ())):
            with mock.patch("seatbuttons.certificates.MOST_SHOWN", 4):
                call(SQUARE, "aabb", *rest)
            with mock.patch("seatbuttons.certificates.MOST_SHOWN", 3):
                self.tells(TooMany(3), call, SQUARE, "aabb", *rest)

    def test_5000_turns(self):
        board = whole(7)
        self.tells(TooMany(5000), certify_spread, board)
        self.tells(TooMany(5000), certify_fewest, board, staying(7))
        self.tells(TooMany(5000), certify_spread, whole(24))
        self.tells(TooMany(5000), certify_fewest, whole(24), staying(24))
        self.assertEqual(order(just_5000()), 5000)
        self.check(certify_spread(just_5000()), "spread")
        self.check(certify_fewest(just_5000(), just_5000().turn("e")), "fewest")
        with mock.patch("seatbuttons.certificates.MOST_SHOWN", 8):
            self.check(certify_spread(SQUARE), "spread")
            self.check(certify_fewest(SQUARE, (3, 2, 1, 0)), "fewest")
        with mock.patch("seatbuttons.certificates.MOST_SHOWN", 7):
            self.tells(TooMany(7), certify_spread, SQUARE)
            self.tells(TooMany(7), certify_fewest, SQUARE, (3, 2, 1, 0))

    def test_50000_standings(self):
        board, many = in_rows(4, 6), "-bbbb" + "a" * 19
        self.tells(TooMany(50000), certify_steps, board, many, many)
        self.tells(TooMany(50000), certify_steps, in_rows(3, 3), "-abcdefgh", "-abcdefgh")

    def test_2000_steps(self):
        board, one = Board(24, (), around(24)), "-abcdefghijklmnopqrstuvw"
        other = one[:1] + one[12:] + one[1:12]
        many = fewest_steps(board, one, other)
        with mock.patch("seatbuttons.searching.MOST_PRESSES", many):
            self.assertEqual(len(certify_steps(board, one, other)[1]), many)
        with mock.patch("seatbuttons.searching.MOST_PRESSES", many - 1):
            self.tells(TooMany(many - 1), certify_steps, board, one, other)
        few = len(row_between(ring(24), one, one[12:] + one[:12]))
        with mock.patch("seatbuttons.searching.MOST_PRESSES", few - 1):
            self.tells(TooMany(few - 1), certify_goes, ring(24), one, one[12:] + one[:12])
            self.check(certify_goes(ring(24), one, one[::-1]), "never")
            with mock.patch("seatbuttons.certificates.MOST_SHOWN", 23):
                self.tells(TooMany(23), certify_goes, ring(24), one, one[12:] + one[:12])


ON_TURNS = (certify_inside, certify_together, certify_fewest)
ON_TWO = (certify_within, certify_alike)


class Wrong(Telling):
    def test_names_of_arguments(self):
        for call in ON_TURNS:
            self.takes(call, "board", "turn")
        for call in ON_TWO + (certify_ring,):
            self.takes(call, "one", "other")
        for call in (certify_order, certify_spread):
            self.takes(call, "board")
        for call in (certify_goes, certify_steps):
            self.takes(call, "board", "one", "other")
        self.takes(certify_reached, "board", "standing")
        self.takes(certify_led, "board", "place", "goal")
        self.takes(certify_block, "board", "places")
        self.takes(certify_sure, "riddle", "place")

    def test_no_boards(self):
        for wrong in no_boards():
            for call in ON_TURNS:
                self.tells(NotABoard(wrong), call, wrong, (0,))
            for call in ON_TWO:
                self.tells(NotABoard(wrong), call, wrong, SQUARE)
                self.tells(NotABoard(wrong), call, SQUARE, wrong)
            for call in (certify_order, certify_spread):
                self.tells(NotABoard(wrong), call, wrong)
            for call in (certify_goes, certify_steps):
                self.tells(NotABoard(wrong), call, wrong, "-", "-")
            self.tells(NotABoard(wrong), certify_reached, wrong, "-")
            self.tells(NotABoard(wrong), certify_led, wrong, 0, 0)
            self.tells(NotABoard(wrong), certify_block, wrong, (0,))
            self.tells(NotARiddle(wrong), certify_sure, wrong, 0)
        self.tells(NotARiddle(SQUARE), certify_sure, SQUARE, 0)

    def test_wrong_turns_and_kinds(self):
        for call in ON_TURNS:
            for wrong in wrong_turns():
                self.tells(InvalidTurn(wrong), call, SQUARE, wrong)
            self.tells(OtherSize(), call, SQUARE, staying(5))
        self.tells(NotInside(2), certify_fewest, SQUARE, (1, 0, 2, 3))
        self.tells(NotInside(1), certify_fewest, SQUARE, (0, 2, 1, 3))
        for wrong in wrong_kinds():
            self.tells(InvalidKind(wrong), certify_ring, wrong, (2, 1))
            self.tells(InvalidKind(wrong), certify_ring, (2, 1), wrong)
        self.tells(OtherSize(), certify_ring, (2, 1), (2, 2))
        for call in ON_TWO:
            self.tells(OtherSize(), call, SQUARE, ring(3))
        self.tells(TooMany(5), certify_alike, SQUARE, board_of(*[staying(4)] * 6))

    def test_wrong_places(self):
        riddle = Riddle(SQUARE, "h", ())
        for wrong in NO_PLACES + [4, 5]:
            self.tells(InvalidPlace(wrong), certify_led, SQUARE, wrong, 0)
            self.tells(InvalidPlace(wrong), certify_led, SQUARE, 0, wrong)
            self.tells(InvalidPlace(wrong), certify_sure, riddle, wrong)
            self.tells(InvalidPlaces(0), certify_block, SQUARE, (wrong,))
            self.tells(InvalidPlaces(1), certify_block, SQUARE, (1, wrong, wrong))
        for wrong in NO_VALUES + [0, (), [0, 1], {0: 1}, "01"]:
            self.tells(InvalidPlaces(None), certify_block, SQUARE, wrong)
        for wrong, index in (((0, 0), 1), ((1, 0), 1), ((0, 2, 1), 2), ((0, 1, 2, 3, 3), 4), ((0, 1, 2, 3, 4), 4),
                             ((0, 3, nested(18)), 2)):
            self.tells(InvalidPlaces(index), certify_block, SQUARE, wrong)

    def test_wrong_standings(self):
        for wrong in wrong_standings(4):
            self.tells(InvalidStanding(wrong), certify_reached, SQUARE, wrong)
            for call, good in ((certify_goes, "aabb"), (certify_steps, "-abc")):
                self.tells(InvalidStanding(wrong), call, SQUARE, wrong, good)
                self.tells(InvalidStanding(wrong), call, SQUARE, good, wrong)
        for wrong in ("abcd", "--ab", "----"):
            self.tells(InvalidStanding(wrong), certify_steps, SQUARE, wrong, "-abc")
            self.tells(InvalidStanding(wrong), certify_steps, SQUARE, "-abc", wrong)

    def test_order_of_errors(self):
        board, no_turn = (0, 5, NotABoard(5)), (1, (0, 0), InvalidTurn((0, 0)))
        no_turn = (1, no_turn[1], InvalidTurn(no_turn[1]))
        for call in ON_TURNS:
            self.tells_in_order(call, (SQUARE, staying(4)), board, no_turn)
        great = whole(7)
        half = evens(7)
        self.tells_in_order(certify_fewest, (half, staying(7)), no_turn, (1, (0,), OtherSize()),
                            (1, turn_of(7, ((0, 1),)), NotInside(5)))
        self.tells_in_order(certify_fewest, (great, staying(7)), no_turn, (1, (0,), OtherSize()),
                            (1, staying(7), TooMany(5000)))
        for call in ON_TWO:
            self.tells_in_order(call, (SQUARE, SQUARE), board, (1, None, NotABoard(None)))
        self.tells_in_order(certify_alike, (SQUARE, SQUARE), board, (1, ring(3), OtherSize()),
                            (1, board_of(*[staying(4)] * 6), TooMany(5)))
        self.tells_in_order(certify_led, (SQUARE, 0, 0), board, (1, 4, InvalidPlace(4)), (2, -1, InvalidPlace(-1)))
        self.tells_in_order(certify_block, (SQUARE, (0,)), board, (1, (), InvalidPlaces(None)))
        self.tells_in_order(certify_goes, (great, "a" * 7, "a" * 7), board, (1, "", InvalidStanding("")),
                            (2, "a", InvalidStanding("a")),
                            (1, "abcdefg", TooMany(5000)))
        self.tells_in_order(certify_reached, (great, "a" * 7), board, (1, "", InvalidStanding("")),
                            (1, "abcdefg", TooMany(5000)))
        yard, many = in_rows(3, 3), "-abcdefgh"
        self.tells_in_order(certify_steps, (yard, "-" + "a" * 8, "-" + "a" * 8), board, (1, "a", InvalidStanding("a")),
                            (2, "b", InvalidStanding("b")),
                            (1, many, TooMany(50000)))
        self.tells_in_order(certify_ring, ((2, 1), (2, 1)), (0, (), InvalidKind(())), (1, (0,), InvalidKind((0,))),
                            (1, (1,), OtherSize()))
        bad = Riddle(SQUARE, "h", (("aaaa", (("h", 1),), "bbbb"),))
        self.tells_in_order(certify_sure, (Riddle(SQUARE, "h", ()), 0), (0, SQUARE, NotARiddle(SQUARE)),
                            (1, 4, InvalidPlace(4)))
        self.tells_in_order(certify_sure, (Riddle(SQUARE, "h", ()), 0), (1, 4, InvalidPlace(4)), (0, bad, Impossible()))


if __name__ == "__main__":
    unittest.main()
