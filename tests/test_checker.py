"""Tests of seatbuttons.checker: what it accepts is shown by the words of the document, and is so."""

import itertools
import random
import unittest

from seatbuttons.boards import Board
from seatbuttons.certificates import certify_alike, certify_block, certify_fewest, certify_goes, certify_inside
from seatbuttons.certificates import certify_led, certify_order, certify_reached, certify_ring, certify_spread
from seatbuttons.certificates import certify_steps, certify_sure, certify_together, certify_within
from seatbuttons.chains import chain
from seatbuttons.checker import accepts
from seatbuttons.riddles import Riddle
from seatbuttons.turns import turn_of

from tests.groups import apart, board_of, evens, just_5000, ring, ring_turned_over, turns_of, whole
from tests.papers import PARTS, bent, is_shown, is_so
from tests.support import NO_VALUES, Agreeing, Stubborn, Telling, all_turns, nested, staying

SQUARE = Board(4, (("f", (1, 0, 3, 2)), ("r", (1, 2, 3, 0))), ())
TURNED = Board(4, (("x", (3, 0, 1, 2)), ("y", (1, 0, 3, 2))), ())
TWO = apart(2, 2)
YARD = Board(3, (("a", (0, 2, 1)),), ((0, 1), (1, 2)))
THREE, SWAP, STILL = ring(3), board_of((1, 0, 2)), Board(3, (), ())
LOOKS = (("aab", (("r", 1), ("h", -1)), "aba"), ("abc", (("h", 1), ("r", 2)), "cab"))
CLEAR = Riddle(Board(3, (("r", (1, 2, 0)),), ()), "h", LOOKS)


def certified():
    """Claims of all words about a few places, with their papers."""
    found = []
    for board in (SQUARE, TWO, THREE, SWAP, STILL, YARD):
        size = board.size
        found += [certify_order(board), certify_spread(board), certify_fewest(board, turns_of(board)[-1])]
        for turn in all_turns(size)[1::size * 2]:
            found += [certify_inside(board, turn), certify_together(board, turn)]
        found += [certify_led(board, 0, goal) for goal in (1, 2)]
        found += [certify_block(board, places) for places in ((0, 1), (0, 2), (0, 1, 2))]
        standings = ("aabb"[:size], "abab"[:size], "abcd"[:size])
        found += [certify_goes(board, standings[0], other) for other in standings] + [certify_reached(board, standings[1])]
    found += [certify_within(one, other) for one, other in ((SQUARE, whole(4)), (whole(4), SQUARE), (TWO, SQUARE),
                                                            (THREE, SWAP), (STILL, SWAP))]
    found += [certify_alike(SQUARE, TURNED), certify_alike(YARD, YARD), certify_alike(STILL, STILL)]
    found += [certify_steps(YARD, one, other) for one, other in (("-ab", "ab-"), ("a-b", "ab-"), ("b-a", "b-a"))]
    kinds = [((2, 1), (2, 1)), ((2, 1), (3,)), ((2, 1, 1), (2, 1, 1)), ((3, 1), (2, 1, 1)), ((1,), (1,)),
             ((2, 1, 1), (1, 1, 1, 1))]
    found += [certify_ring(one, other) for one, other in kinds]
    return found + [certify_sure(CLEAR, place) for place in range(3)]


CERTIFIED = certified()

# What can be said of two boards in the place of one another, of standings, of places and so on.
BOARDS = [SQUARE, TURNED, TWO, whole(4), evens(4), THREE, SWAP, STILL, YARD, Board(4, SQUARE.buttons, ((0, 2),)),
          Board(2, (), ())]
TEXTS = [board.text for board in BOARDS]


def bent_claims(claim):
    """The claim with one of its parts changed: another word, another board, another number."""
    found = [(word,) + claim[1:] for word in PARTS] + bent(claim)
    for at, part in enumerate(claim):
        if part in TEXTS:
            found += [claim[:at] + (text,) + claim[at + 1:] for text in TEXTS]
    return found


class Bent(Telling):
    def agrees(self, claim, paper):
        """The checker tells what the words of the document tell, and what it accepts is so."""
        shown = is_shown(claim, paper)
        self.assertIs(accepts(claim, paper), shown, (claim, paper))
        if shown:
            self.assertTrue(is_so(claim), claim)
        return shown

    def test_each_word_is_there(self):
        self.assertEqual({claim[0] for claim, _ in CERTIFIED}, set(PARTS))

    def test_what_is_certified(self):
        for claim, paper in CERTIFIED:
            self.assertTrue(self.agrees(claim, paper), claim)
            self.gives(True, accepts, claim, paper)

    def test_bent_papers(self):
        rng = random.Random(95)
        accepted = {}
        for claim, paper in CERTIFIED:
            some = bent(paper)
            for other in some if len(some) < 250 else rng.sample(some, 250):
                accepted.setdefault(claim[0], []).append(self.agrees(claim, other))
        for word, told in accepted.items():
            self.assertIn(False, told, word)

    def test_bent_claims(self):
        rng = random.Random(96)
        for claim, paper in CERTIFIED:
            some = bent_claims(claim)
            for other in some if len(some) < 200 else rng.sample(some, 200):
                self.agrees(other, paper)

    def test_both_bent(self):
        rng = random.Random(97)
        for claim, paper in CERTIFIED:
            claims, papers = bent_claims(claim), bent(paper) + [paper]
            for _ in range(40):
                self.agrees(rng.choice(claims), rng.choice(papers))

    def test_papers_of_others(self):
        papers = [paper for _, paper in CERTIFIED[::3]] + [(), ((),), "", None, 0, ((("a", 1),),), (0, 1), ("sign",),
                                                           "sign", "rings"]
        for (claim, _), paper in itertools.product(CERTIFIED[::2], papers):
            self.agrees(claim, paper)

    def test_several_bends(self):
        rng = random.Random(98)
        for claim, paper in CERTIFIED:
            for _ in range(15):
                other = rng.choice(bent(paper) or [paper])
                if isinstance(other, tuple) and other:
                    other = rng.choice(bent(other))
                self.agrees(claim, other)


class AnyValues(Telling):
    """The checker raises nothing, and accepts nothing, whatever it is passed."""

    def values(self):
        found = NO_VALUES + [0, 1, -1, 10 ** 40, (), ((),), nested(20), [nested(19)], {"inside": 1}, Board, SQUARE,
                             YARD, accepts, b"a"]
        return found + [(value,) for value in NO_VALUES] + [(value,
                                                             value) for value in NO_VALUES] + [(None, (value, (value,))) for value in NO_VALUES]

    def test_values_as_claims(self):
        for value in self.values():
            for paper in ((), None, value):
                self.assertIs(accepts(value, paper), False)

    def test_values_in_claims(self):
        some = NO_VALUES + [nested(20), 10 ** 40, -1, b"a", Board, SQUARE]
        for claim, paper in {claim[0]: (claim, paper) for claim, paper in CERTIFIED}.values():
            for at in range(len(claim)):
                for value in some:
                    # Where a value may be anything, it is none of the right form.
                    self.assertIs(accepts(claim[:at] + (value,) + claim[at + 1:], paper), False, (claim, at))
            for value in some:
                self.assertIs(accepts(claim + (value,), paper), False)
                self.assertIs(accepts((value,) + claim, paper), False)
                self.assertIs(accepts([*claim], paper), False)

    def test_values_as_papers(self):
        for claim, _ in CERTIFIED:
            for value in self.values():
                # Strings, and tuples of strings alone, are papers of a few claims.
                plain = isinstance(value, str) or isinstance(value,
                                                             tuple) and all(isinstance(part, str) for part in value)
                self.assertIs(accepts(claim, value), plain and is_shown(claim, value), (claim, value))

    def test_values_in_papers(self):
        some = [value for value in NO_VALUES if value is not None] + [nested(15), 10 ** 40]
        for claim, paper in CERTIFIED[::3]:
            for bends in self.with_value(paper):
                for value in some:
                    self.assertIn(accepts(claim, bends(value)), (True, False))

    def with_value(self, paper):
        """For each part of a paper what puts a value in its place, down to three levels."""
        if not isinstance(paper, tuple):
            return [lambda value: value]
        found = [lambda value: (value,), lambda value: paper + (value,)]
        for at, part in list(enumerate(paper))[:6]:
            found.append(lambda value, at=at: paper[:at] + (value,) + paper[at + 1:])
            if isinstance(part, tuple):
                found += [lambda value, at=at, inner=inner: paper[:at] + (inner(value),) + paper[at + 1:] for inner in self.with_value(part)[:8]]
        return found

    def test_stubborn_values(self):
        for value in (Stubborn(), Agreeing()):
            self.assertIs(accepts(("together", THREE.text, (1, 2, 0)), value), False)
            self.assertIs(accepts(("block", THREE.text, (0,)), value), False)
            self.assertIs(accepts(("no ring", (2, 1), (3,)), value), False)
            self.assertIs(accepts(("spread", STILL.text, value), (((0, 1, 2),),)), False)
            self.assertIs(accepts(("spread", STILL.text, (value,)), (((0, 1, 2),),)), False)
            self.assertIs(accepts(("order", STILL.text, value), ((None,), (), ())), False)
            self.assertIs(accepts(("sure", CLEAR.board.text, value, LOOKS, 0, 1), ()), False)
            self.assertIs(accepts(("sure", CLEAR.board.text, "h", value, 0, 1), ()), False)
            self.assertIs(accepts(("sure", CLEAR.board.text, "h", (value,), 0, 1), ()), False)
            self.assertIs(accepts(("alike", STILL.text, STILL.text), ((0, 1, 2), value)), False)
            self.assertIs(accepts(("alike", THREE.text, THREE.text), ((0, 1, 2), (value,))), False)


class Papers(Telling):
    """Papers that are not those of `certificates`."""

    def shown(self, claim, *papers):
        for paper in papers:
            self.gives(True, accepts, claim, paper)

    def not_shown(self, claim, *papers):
        for paper in papers:
            self.gives(False, accepts, claim, paper)

    def test_examples(self):
        self.shown(("inside", SQUARE.text, (0, 3, 2, 1)), ("r", "f", (0, 1)))
        self.shown(("goes", SQUARE.text, "aabb", "abba"), (("r", -1),))
        self.not_shown(("goes", SQUARE.text, "aabb", "abab"), (("r", 1),))
        self.shown(("no block", ring_turned_over(6).text, (0, 1)), (("a", 1),))

    def test_rows(self):
        self.shown(("led", SQUARE.text, 0, 3), (("r", 10 ** 30 - 1),), (("r", -1),), (("r", 1),) * 1999,
                   (("f", 2), ("r", 3)))
        self.not_shown(("led", SQUARE.text, 0, 3), (("r", 1),), (("r", 3),) * 2001, (("r", 10 ** 30 + 3),),
                       (["r", 3],), (("r", 3), ("x", 1)))
        self.shown(("led", SQUARE.text, 2, 2), (), (("r", 4),), (("f", 2), ("f", -2)))
        self.shown(("goes", SQUARE.text, "-a-a", "a-a-"), (("r", 1),), (("f", 3),), (("r", -10 ** 30 + 1),))
        self.shown(("goes", SQUARE.text, "aaaa", "aaaa"), (), (("r", 1),))
        self.not_shown(("led", SQUARE.text, 0, 0), ("r", 4), (("r", True),) * 4, [("r", 4)])

    def test_makings(self):
        # 20000 steps may be, one more may not.
        claim = ("inside", SQUARE.text, (1, 2, 3, 0))
        self.shown(claim, ("r",), (None, "f", (1, 1), "r"), (None,) * 19999 + ("r",), ("r", 0, 1), ("r",) * 20000)
        self.not_shown(claim, ("f",), ("r", 0), (None,) * 20000 + ("r",), (), ("r", "x"), ("r", 1), ("r", (0, 1)),
                       ("r", True, "r"), ["r"])
        self.shown(("within", STILL.text, SWAP.text), ())
        self.shown(("within", SQUARE.text, SQUARE.text), (("f",), ("r",)))
        self.not_shown(("within", SQUARE.text, SQUARE.text), (("r",), ("f",)), (("f",), ("r",), ("r",)), (("f",),),
                       [("f",), ("r",)], ())
        self.not_shown(("within", STILL.text, Board(2, (), ()).text), ())

    def test_chains(self):
        steps, line, levels = chain(SQUARE)
        longer = (steps, line + (3,), levels + (((3, None),),))
        self.shown(("order", SQUARE.text, 8), (steps, line, levels), longer, (steps + (None,), line, levels))
        self.not_shown(("order", SQUARE.text, 8), (steps, line, levels[:1]), (steps, line[:1], levels[:1]),
                       ((None,), (), ()), [steps, line, levels])
        self.not_shown(("order", SQUARE.text, 4), (steps, line[:1], levels[:1]), (steps, line, levels))
        self.not_shown(("order", SQUARE.text, 2), (steps, line, (levels[0][:1], levels[1])))
        self.shown(("outside", SQUARE.text, (1, 0, 2, 3)), (steps, line, levels), longer)
        self.not_shown(("outside", SQUARE.text, (1, 0, 2, 3)), (steps, line, (levels[0][:1], levels[1])),
                       ((None,), (), ()), ((None,), (0,), (((0, None),),)))
        self.not_shown(("outside", SQUARE.text, (2, 3, 0, 1)), (steps, line, levels), longer)
        self.shown(("order", STILL.text, 1), ((None,), (), ()), ((None,), (2, 0), (((2, None),), ((0, None),))))
        self.shown(("not within", whole(4).text, SQUARE.text), ("a", (steps, line, levels)))
        self.not_shown(("not within", whole(4).text, SQUARE.text), ("b", (steps, line, levels)),
                       ("c", (steps, line, levels)),
                       ("a", (steps, line, levels), 0), ["a", (steps, line, levels)], (("a",), (steps, line, levels)))
        both = Board(4, (("a", (1, 0, 2, 3)), ("b", (0, 2, 1, 3))), ())
        self.shown(("not within", both.text, SQUARE.text), ("a", (steps, line, levels)), ("b", longer))

    def test_places(self):
        text = apart(2, 2, 1 + 1).text
        self.shown(("not led", text, 0, 5), (0, 1), (0, 1, 2, 3))
        self.not_shown(("not led", text, 0, 5), (0,), (0, 1, 4, 5), (2, 3), (0, 1, 2), (1, 0), (), [0, 1], (0, 1, 1),
                       (0, 1, 6), (False, True))
        self.not_shown(("not led", text, 0, 0), (0, 1), ())
        self.shown(("no block", text, (0, 2)), (0, 2), (2, 0), (("a", 1), ("c", 2)), (("c", -1),))
        self.not_shown(("no block", text, (0, 2)), (0, 0), (0, 1), (0, 3), (0, 2, 4), [0, 2], (0, True), (),
                       (("a", 1), ("c", 1)), (("e", 1),))
        self.not_shown(("no block", text, (0, 1)), (0, 1), (), (("a", 1),))
        self.shown(("block", text, (0, 1)), ())
        self.not_shown(("block", text, (0, 1)), None, (0, 1), [], "", ((),))
        self.not_shown(("block", text, (0, 2)), ())
        self.not_shown(("block", text, ()), ())
        self.not_shown(("block", text, (1, 0)), ())
        self.not_shown(("block", text, [0, 1]), ())

    def test_boards(self):
        self.shown(("alike", SQUARE.text, SQUARE.text), ((0, 1, 2, 3), ("f", "r")), ((2, 3, 0, 1), ("f", "r")))
        self.not_shown(("alike", SQUARE.text, SQUARE.text), ((0, 1, 2, 3), ("r", "f")), ((1, 2, 3, 0), ("f", "r")),
                       ((0, 1, 2, 3), ("f",)),
                       ((0, 1, 2, 3), ("f", "f")), ((0, 1, 2), ("f", "r")), ((0, 1, 2, 3), ["f", "r"]),
                       ((0, 1, 2, 3), ("f", "r", "r")))
        self.shown(("alike", SQUARE.text, TURNED.text), ((1, 0, 3, 2), ("y", "x")))
        self.not_shown(("alike", SQUARE.text, TURNED.text), ((1, 0, 3, 2), ("x", "y")), ((0, 1, 2, 3), ("y", "x")))
        six = board_of(*[staying(4)] * 6)
        self.shown(("alike", six.text, six.text), ((1, 2, 3, 0), tuple("fedcba")))
        tied = Board(3, (), ((0, 1),))
        self.shown(("alike", tied.text, Board(3, (), ((1, 2),)).text), ((2, 1, 0), ()), ((1, 2, 0), ()))
        self.not_shown(("alike", tied.text, Board(3, (), ((1, 2),)).text), ((0, 1, 2), ()))
        self.not_shown(("alike", tied.text, STILL.text), ((0, 1, 2), ()))
        self.not_shown(("alike", STILL.text, THREE.text), ((0, 1, 2), ()), ((0, 1, 2), ("a",)))
        self.shown(("not together", SQUARE.text, (1, 0, 2, 3)), "r")
        self.not_shown(("not together", SQUARE.text, (1, 0, 2, 3)), "f", "x", "", ("r",), ())

    def test_standings(self):
        self.shown(("never", SQUARE.text, "aabb", "abab"), ("aabb", "abba", "baab", "bbaa"),
                   ("aaaa", "aabb", "abba", "baab", "bbaa"))
        self.not_shown(("never", SQUARE.text, "aabb", "abab"), ("aabb", "abba", "baab"),
                       ("abba", "aabb", "baab", "bbaa"), ("aaaa",), (),
                       ["aabb", "abba", "baab", "bbaa"], ("aabb", "aabb", "abba", "baab", "bbaa"),
                       ("aabb", "abab", "abba", "baab", "baba", "bbaa"))
        self.not_shown(("never", SQUARE.text, "aabb", "aabb"), ("aabb", "abba", "baab", "bbaa"))
        claim = ("reached", SQUARE.text, "aabb", 4)
        self.shown(claim, ("aabb", "baab", "bbaa", "abba"), ("aabb", "abba", "bbaa", "baab"),
                   ("aabb", "abba", "baab", "bbaa"))
        self.not_shown(claim, ("aabb", "bbaa", "abba", "baab"), ("abba", "aabb", "baab", "bbaa"),
                       ("aabb", "baab", "bbaa"), ("aabb",) * 4,
                       ("aabb", "baab", "bbaa", "baab"), ["aabb", "baab", "bbaa", "abba"],
                       ("aabb", "baab", "bbaa", "abba", "abab"))
        self.shown(("reached", Board(2, (), ()).text, "ab", 1), ("ab",))
        self.not_shown(("reached", Board(2, (), ()).text, "ab", 2), ("ab", "ba"))
        self.not_shown(("reached", Board(2, (), ()).text, "ab", 0), ())
        self.not_shown(("reached", SQUARE.text, "aaaa", True), ("aaaa",))
        self.shown(("reached", SQUARE.text, "aaaa", 1), ("aaaa",))

    def test_5000_standings(self):
        # Without buttons each standing by itself is a closed lot.
        some = ["".join(signs) for signs in itertools.islice(itertools.product("abcdefgh", repeat=5), 5002)]
        text = Board(5, (), ()).text
        self.shown(("never", text, some[0], "zzzzz"), tuple(some[:5000]))
        self.not_shown(("never", text, some[0], "zzzzz"), tuple(some[:5001]))
        seven = whole(7)
        listed = {"aabcdef": None}
        for here in itertools.islice(self.growing(listed, seven), 5000):
            self.assertIn(here, listed)
        self.shown(("reached", seven.text, "aabcdef", 2520), tuple(listed))
        listed = {"abcdefg": None}
        for here in self.growing(listed, seven):
            self.assertIn(here, listed)
        self.assertEqual(len(listed), 5040)
        self.not_shown(("reached", seven.text, "abcdefg", 5040), tuple(listed))

    def growing(self, listed, board):
        """What comes of standings by single buttons, one behind the other."""
        waiting = list(listed)
        for here in waiting:
            yield here
            for _, turn in board.buttons:
                there = "".join(here[turn.index(place)] for place in range(board.size))
                if there not in listed:
                    listed[there] = None
                    waiting.append(there)

    def test_steps(self):
        self.shown(("steps", YARD.text, "-ab", "a-b"), ((">", 1),), ((">", 1), ("a", 1), ("a", -1)),
                   (("a", 1),) * 2 + ((">", 1),))
        self.shown(("steps", YARD.text, "-ab", "-ab"), (), ((">", 1), (">", 0)) * 1000)
        self.not_shown(("steps", YARD.text, "-ab", "-ab"), ((">", 1), (">", 0)) * 1000 + (("a", 1), ("a", 1)),
                       ((">", 2), (">", 0)), (("a", 2),), [("a", 1)] * 2)
        self.not_shown(("steps", YARD.text, "aab", "aab"), ())
        self.not_shown(("steps", YARD.text, "--a", "--a"), ())

    def test_layers(self):
        layers = ((staying(3),), ((1, 2, 0), (2, 0, 1)))
        self.shown(("spread", THREE.text, (1, 2)), layers)
        self.shown(("fewest", THREE.text, (2, 0, 1), 1), layers)
        self.shown(("fewest", THREE.text, staying(3), 0), layers)
        self.not_shown(("fewest", THREE.text, (2, 0, 1), 0), layers)
        self.not_shown(("fewest", THREE.text, (2, 0, 1), 2), layers, layers + (((2, 0, 1),),))
        self.not_shown(("fewest", THREE.text, (1, 0, 2), 1), layers)
        self.not_shown(("spread", THREE.text, (1, 2)), layers[::-1], (layers[0], layers[1][::-1]), layers[:1],
                       list(layers), ())
        self.not_shown(("spread", THREE.text, [1, 2]), layers)
        self.not_shown(("spread", THREE.text, (True, 2)), layers)
        self.not_shown(("spread", THREE.text, (1, 1)), (layers[0], layers[1][:1]))
        self.not_shown(("spread", THREE.text, (1, 1, 1)), (layers[0], layers[1][:1], layers[1][1:]))
        self.not_shown(("spread", STILL.text, (1, 1)), (layers[0], ((1, 2, 0),)))
        self.shown(("spread", STILL.text, (1,)), ((staying(3),),))
        # No layer is empty, and no turn is in two of them.
        self.not_shown(("spread", THREE.text, (1, 2, 0)), layers + ((),), layers)
        self.not_shown(("fewest", THREE.text, (2, 0, 1), 1), layers + ((),), ((),) + layers)
        self.not_shown(("spread", THREE.text, (1, 2, 1)), layers + (((2, 0, 1),),), layers + (((0, 1, 2),),))
        self.not_shown(("spread", THREE.text, (1, 3)), (layers[0], layers[1] + layers[1][1:]))
        for turn in ((0, 1), (1, 0), staying(4), (1, 2, 3, 0), staying(24)):
            self.not_shown(("spread", STILL.text, (1,)), ((turn,),))
            self.not_shown(("spread", THREE.text, (1, 3)), (layers[0], tuple(sorted((*layers[1], turn)))))
        four = ring(4)
        turns = [tuple((at + step) % 4 for at in range(4)) for step in range(4)]
        self.shown(("spread", four.text, (1, 2, 1)), ((turns[0],), (turns[1], turns[3]), (turns[2],)))
        self.not_shown(("spread", four.text, (1, 3)), ((turns[0],), (turns[1], turns[2], turns[3])))
        self.not_shown(("spread", four.text, (1, 1, 1, 1)), tuple((turn,) for turn in turns))

    def test_5000_turns(self):
        board = just_5000()
        found = self.layers_of(board)
        self.assertEqual(sum(map(len, found)), 5000)
        self.shown(("spread", board.text, tuple(map(len, found))), found)
        board = whole(7)
        found = self.layers_of(board)
        self.not_shown(("spread", board.text, tuple(map(len, found))), found)
        self.not_shown(("fewest", board.text, staying(7), 0), found)

    def layers_of(self, board):
        met, latest, found = {staying(board.size)}, [staying(board.size)], []
        while latest:
            found.append(tuple(sorted(latest)))
            behind = set()
            for turn in latest:
                for _, press in board.buttons:
                    back = tuple(press.index(place) for place in range(board.size))
                    behind |= {tuple(press[goal] for goal in turn), tuple(back[goal] for goal in turn)}
            latest = list(behind - met)
            met |= behind
        return tuple(found)

    def test_rings(self):
        self.shown(("ring", (2, 1), (2, 1)), ((1, 0, 2), (0, 2, 1)), ((0, 2, 1), (1, 0, 2)), ((2, 1, 0), (1, 0, 2)))
        self.not_shown(("ring", (2, 1), (2, 1)), ((1, 0, 2), (1, 0, 2)), ((1, 0, 2), (1, 2, 0)),
                       [(1, 0, 2), (0, 2, 1)], ((1, 0), (0, 1)), ())
        self.shown(("no ring", (2, 1), (3,)), "sign")
        self.not_shown(("no ring", (2, 1), (3,)), "rings", "", None, ("sign",), "signs")
        self.shown(("no ring", (2, 1, 1, 1), (2, 1, 1, 1)), "rings")
        self.not_shown(("no ring", (2, 1), (2, 1)), "sign", "rings", None)
        self.not_shown(("no ring", (2, 1), (3, 1)), "sign", "rings", None)
        self.not_shown(("ring", (2, 1), (2, 1, 1)), ((1, 0, 2), (0, 2, 1)))
        self.not_shown(("ring", (1, 2), (2, 1)), ((1, 0, 2), (0, 2, 1)))

    def test_sure(self):
        text, looks = SQUARE.text, (("aabb", (("h", 1),), "abab"),)
        self.shown(("sure", text, "h", (("abbb", (("h", 1),), "bbab"),), 0, 2), ())
        for place, goal in itertools.product(range(4), repeat=2):
            self.not_shown(("sure", text, "h", looks, place, goal), ())
            self.not_shown(("sure", text, "h", (("aaaa", (("h", 1),), "bbbb"),), place, goal), ())
        self.shown(("sure", Board(1, (), ()).text, "h", (), 0, 0), ())
        good = ("abbb", (("h", 1),), "bbab")
        self.shown(("sure", text, "h", (good,) * 12, 0, 2), ())
        self.not_shown(("sure", text, "h", (good,) * 13, 0, 2), ())
        self.not_shown(("sure", text, "h", [good], 0, 2), ())
        self.not_shown(("sure", text, "f", (good,), 0, 2), ())
        self.not_shown(("sure", text, "tie", (), 0, 2), ())
        self.not_shown(("sure", text, "h", (good,), 0, 2), None, "", (0,), [])
        self.not_shown(("sure", text, "h", (good,), 0, 4), ())
        self.not_shown(("sure", text, "h", (good,), 4, 2), ())

    def test_great_numbers(self):
        great = whole(24)
        claim, paper = certify_order(great)
        self.shown(claim, paper)
        self.not_shown(claim[:2] + (claim[2] + 1,), paper)
        self.not_shown(("order", great.text, 0), paper)
        self.not_shown(("outside", great.text, turn_of(24, ((3, 4),))), paper)

    def test_other_texts(self):
        for text in ("4 ; r 1 2 3 0 ; f 1 0 3 2", "04", SQUARE.text + " ", SQUARE.text + ";", "", "25", "4 ; tie 1 0",
                     4, None, SQUARE):
            self.not_shown(("led", text, 0, 0), ())
            self.not_shown(("within", STILL.text, text), ())

    def test_nothing_is_changed(self):
        for claim, paper in CERTIFIED:
            before = repr((claim, paper))
            accepts(claim, paper)
            self.assertEqual(repr((claim, paper)), before)
        self.takes(accepts, "claim", "paper")


if __name__ == "__main__":
    unittest.main()
