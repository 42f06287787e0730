"""Tests of seatbuttons.shelves against an own model that goes through all turns and standings."""

import random
import unittest

from seatbuttons.boards import Board
from seatbuttons.errors import Broken, InUse, InvalidClaim, InvalidIndex, InvalidName, NotAThing, NothingToUndo
from seatbuttons.errors import UnknownName
from seatbuttons.shelves import Shelf

from tests.groups import apart, board_of, evens, ring, ring_turned_over, whole
from tests.shelving import WORDS, Model, Refused, named_in, told_by
from tests.support import NO_INTEGERS, NO_VALUES, Telling, nested, no_boards, staying, wrong_turns

SQUARE = ring_turned_over(4)
BOARDS = [ring(3), whole(3), Board(3, (), ()), ring(4), SQUARE, whole(4), evens(4), apart(2, 2), board_of((1, 0, 2))]
STANDINGS = ["aab", "aba", "---", "abc", "aabb", "abab", "abba", "-abc", "cba-", "aaaa", "a"]
NAMES = ["a", "b", "s", "t", "tie"]
TURNS = [(1, 2, 0), (1, 0, 2), (1, 2, 3, 0), (1, 0, 2, 3), (2, 3, 0, 1), (0, 1, 2, 3), (0,), (1, 0)]


def a_claim(rng):
    word = rng.choice(list(WORDS))
    parts = {"A": lambda: rng.choice(["a", "a", "b", "b", "tie", "s"]),
             "S": lambda: rng.choice(["s", "s", "t", "t", "a", "q"]),
             "N": lambda: rng.choice([1, 2, 3, 4, 6, 8, 12, 24]), "T": lambda: rng.choice(TURNS)}
    return (word, *[parts[part]() for part in WORDS[word]])


def an_action(rng):
    """The name of a method and its arguments."""
    word = rng.choice(["put", "put", "put", "drop", "claim", "claim", "claim", "claim", "lift", "undo"])
    if word == "put":
        name = rng.choice(NAMES)
        mostly = BOARDS if (name in ("a", "b", "tie")) == (rng.random() < 0.93) else STANDINGS
        return word, (name, rng.choice(mostly))
    if word == "claim":
        return word, (a_claim(rng),)
    return word, {"drop": (rng.choice(NAMES + ["q"]),), "lift": (rng.randrange(5),), "undo": ()}[word]


def done(thing, word, arguments):
    """What an action does: None, or the error that is told."""
    try:
        return getattr(thing, word)(*arguments)
    except Refused as refused:
        return refused.told
    except (Broken, InUse, InvalidIndex, NothingToUndo, UnknownName) as error:
        return (type(error).__name__, *vars(error).values())


class AgainstTheModel(Telling):
    def test_at_random(self):
        met = set()
        for seed in range(60):
            rng = random.Random(300 + seed)
            shelf, model = Shelf(), Model()
            for _ in range(120):
                word, arguments = an_action(rng)
                told = done(model, word, arguments)
                self.assertEqual(repr(done(shelf, word, arguments)), repr(told), (word, arguments, model.told()))
                self.same(shelf, model)
                met.add((word, told[0] if told else None))
                if told and told[0] == "Broken":
                    claim = (model.claims + list(arguments))[told[1]] if word == "claim" else model.claims[told[1]]
                    met.add((claim[0], told[2] if not isinstance(told[2],
                                                                 int) or isinstance(told[2], bool) else "many"))
        self.check_met(met)

    def same(self, shelf, model):
        self.assertEqual(told_by(shelf), model.told())
        for name in NAMES + ["q"]:
            self.assertIs(name in shelf, name in model.things)
        for name, thing in model.things.items():
            self.assertIs(shelf.thing(name), thing)

    def check_met(self, met):
        """All that can be told was told, with each of the words."""
        for word, told in (("put", None), ("put", "InUse"), ("put", "Broken"), ("drop", None), ("drop", "InUse"),
                           ("drop", "UnknownName"), ("claim", None), ("claim", "UnknownName"), ("claim", "Broken"),
                           ("lift", None), ("lift", "InvalidIndex"), ("undo", None), ("undo", "NothingToUndo"),
                           ("order", "many"), ("inside", False), ("inside", None), ("outside", True), ("outside", None),
                           ("goes", False), ("goes", None), ("never", True), ("never", None), ("within", False),
                           ("within", None), ("one reach", "many")):
            self.assertIn((word, told), met)

    def test_all_is_taken_back(self):
        for seed in range(10):
            rng = random.Random(400 + seed)
            shelf, model = Shelf(), Model()
            for _ in range(60):
                word, arguments = an_action(rng)
                if word != "undo":
                    done(shelf, word, arguments)
                    done(model, word, arguments)
            while model.past:
                shelf.undo()
                model.undo()
                self.same(shelf, model)
            self.assertEqual(told_by(shelf), ((), (), 0))
            self.tells(NothingToUndo(), shelf.undo)


def a_shelf():
    """A shelf with two boards and two standings of four places, and one board of three."""
    shelf = Shelf()
    for name, thing in (("q", SQUARE), ("w", whole(4)), ("s", "aabb"), ("t", "abab"), ("u", "bbaa"),
                        ("three", ring(3))):
        shelf.put(name, thing)
    return shelf


HOLDING = [("order", "q", 8), ("inside", "q", (2, 3, 0, 1)), ("outside", "q", (1, 0, 2, 3)), ("goes", "q", "s", "u"),
           ("never", "q", "s", "t"), ("within", "q", "w"), ("one reach", "q")]


class Claims(Telling):
    def test_each_word(self):
        shelf = a_shelf()
        for index, claim in enumerate(HOLDING):
            self.assertIsNone(shelf.claim(claim))
            self.assertEqual(shelf.claims, tuple(HOLDING[:index + 1]))
        self.assertEqual(shelf.changes, 6 + len(HOLDING))

    def test_each_word_that_does_not_hold(self):
        for claim, so in ((("order", "q", 7), 8), (("order", "w", 10 ** 30), 24), (("order", "w", 0), 24),
                          (("inside", "q", (1, 0, 2, 3)), False), (("inside", "q", (0, 1, 2)), None),
                          (("inside", "three", (0,)), None),
                          (("outside", "q", (1, 2, 3, 0)), True), (("outside", "q", (1, 0, 2)), None),
                          (("outside", "q", staying(24)), None),
                          (("goes", "q", "s", "t"), False), (("goes", "three", "s", "t"), None),
                          (("goes", "three", "s", "s"), None),
                          (("never", "q", "s", "u"), True), (("never", "q", "s", "s"), True),
                          (("never", "three", "s", "t"), None),
                          (("within", "w", "q"), False), (("within", "three", "w"), None),
                          (("within", "w", "three"), None)):
            shelf = a_shelf()
            before = told_by(shelf)
            self.tells(Broken(0, so), shelf.claim, claim)
            self.assertEqual(told_by(shelf), before)
            shelf.claim(("one reach", "q"))
            self.tells(Broken(1, so), shelf.claim, claim)

    def test_reaches(self):
        shelf = Shelf()
        shelf.put("x", Board(24, (), ()))
        self.tells(Broken(0, 24), shelf.claim, ("one reach", "x"))
        shelf.put("x", apart(2, 3, 4))
        self.tells(Broken(0, 3), shelf.claim, ("one reach", "x"))
        shelf.put("x", Board(1, (), ()))
        shelf.claim(("one reach", "x"))
        self.tells(Broken(0, 2), shelf.put, "x", Board(2, (), ((0, 1),)))

    def test_standings_of_two_sizes(self):
        shelf = a_shelf()
        shelf.put("v", "aab")
        for word in ("goes", "never"):
            self.tells(Broken(0, None), shelf.claim, (word, "q", "s", "v"))
            self.tells(Broken(0, None), shelf.claim, (word, "q", "v", "s"))
            self.tells(Broken(0, None), shelf.claim, (word, "q", "v", "v"))

    def test_eight_and_nine_places(self):
        shelf = Shelf()
        shelf.put("e", whole(8))
        shelf.put("s", "abcdefgh")
        shelf.put("t", "hgfedcba")
        shelf.claim(("goes", "e", "s", "t"))
        self.tells(Broken(0, False), shelf.put, "e", ring(8))
        shelf = Shelf()
        shelf.put("n", ring(9))
        shelf.put("s", "a" * 9)
        self.tells(Broken(0, None), shelf.claim, ("goes", "n", "s", "s"))
        shelf.put("t", "b" * 9)
        self.tells(Broken(0, None), shelf.claim, ("never", "n", "s", "t"))

    def test_great_boards(self):
        shelf = Shelf()
        shelf.put("g", whole(24))
        self.tells(Broken(0, 620448401733239439360000), shelf.claim, ("order", "g", 620448401733239439360001))
        shelf.claim(("order", "g", 620448401733239439360000))
        shelf.put("e", evens(24))
        shelf.claim(("within", "e", "g"))
        shelf.claim(("outside", "e", (1, 0) + tuple(range(2, 24))))
        self.tells(Broken(2, True), shelf.put, "e", whole(24))
        self.tells(Broken(0, 24), shelf.put, "g", ring(24))

    def test_the_same_claim_again(self):
        shelf = a_shelf()
        for _ in range(3):
            shelf.claim(claim=("order", "q", 8))
        self.assertEqual(shelf.claims, (("order", "q", 8),) * 3)
        shelf.lift(1)
        self.assertEqual(shelf.claims, (("order", "q", 8),) * 2)

    def test_lift(self):
        for index in range(len(HOLDING)):
            shelf = a_shelf()
            for claim in HOLDING:
                shelf.claim(claim)
            self.assertIsNone(shelf.lift(index=index))
            self.assertEqual(shelf.claims, tuple(HOLDING[:index] + HOLDING[index + 1:]))
            shelf.undo()
            self.assertEqual(shelf.claims, tuple(HOLDING))


class Things(Telling):
    def test_put_in_the_place_of_another(self):
        shelf = a_shelf()
        shelf.claim(("order", "q", 8))
        shelf.claim(("inside", "q", (1, 2, 3, 0)))
        self.tells(Broken(0, 4), shelf.put, "q", ring(4))
        self.tells(Broken(0, 24), shelf.put, "q", whole(4))
        self.tells(Broken(0, 6), shelf.put, "q", whole(3))
        # Another board of eight turns, the ring not among them.
        self.tells(Broken(1, False), shelf.put, "q", board_of((1, 0, 2, 3), (2, 3, 0, 1)))
        self.assertIs(shelf.thing("q"), SQUARE)
        other = Board(4, SQUARE.buttons, ((0, 1),))
        shelf.put("q", other)
        self.assertIs(shelf.thing("q"), other)
        shelf.undo()
        self.assertIs(shelf.thing("q"), SQUARE)

    def test_standings_in_the_place_of_others(self):
        shelf = a_shelf()
        shelf.claim(("goes", "q", "s", "u"))
        shelf.claim(("never", "q", "s", "t"))
        self.tells(Broken(0, False), shelf.put, "u", "abab")
        self.tells(Broken(1, True), shelf.put, "t", "abba")
        self.tells(Broken(0, None), shelf.put, "s", "aab")
        self.tells(Broken(1, None), shelf.put, "t", "ababa")
        shelf.put("s", "bbaa")
        self.assertEqual(shelf.thing("s"), "bbaa")

    def test_things_of_the_other_sort(self):
        shelf = a_shelf()
        for claim in HOLDING:
            shelf.claim(claim)
        for name, thing, index in (("q", "aabb", 0), ("w", "aabb", 5), ("s", SQUARE, 3), ("t", SQUARE, 4),
                                   ("u", whole(4), 3)):
            before = told_by(shelf)
            self.tells(InUse(index), shelf.put, name, thing)
            self.tells(InUse(index), shelf.drop, name)
            self.assertEqual(told_by(shelf), before)
        shelf.put("three", "abc")
        self.assertEqual(shelf.thing("three"), "abc")
        shelf.put("three", SQUARE)
        shelf.drop("three")
        self.assertEqual(shelf.names, ("q", "s", "t", "u", "w"))
        for _ in range(3):
            shelf.lift(3)
        shelf.put("s", SQUARE)
        self.tells(UnknownName("s"), shelf.claim, ("goes", "q", "s", "t"))

    def test_names(self):
        shelf = Shelf()
        for name in ("tie", "b", "abcdefgh", "a"):
            self.assertIsNone(shelf.put(name=name, thing="-"))
        self.assertEqual(shelf.names, ("a", "abcdefgh", "b", "tie"))
        shelf.put("a", "-" * 24)
        self.assertEqual(shelf.names, ("a", "abcdefgh", "b", "tie"))
        self.assertEqual((shelf.thing(name="a"), shelf.changes), ("-" * 24, 5))
        self.assertIsNone(shelf.drop(name="b"))
        self.assertEqual(shelf.names, ("a", "abcdefgh", "tie"))

    def test_in(self):
        shelf = a_shelf()
        self.assertIs("q" in shelf, True)
        self.assertIs("x" in shelf, False)
        for value in NO_VALUES + [0, (), ("q",), ["q"], nested(20), SQUARE, shelf]:
            self.assertIs(value in shelf, False)
            self.assertIs(value not in shelf, True)

    def test_what_leaves_all_as_it_was_is_a_change(self):
        shelf = a_shelf()
        shelf.put("q", SQUARE)
        shelf.put("s", "aabb")
        self.assertEqual(shelf.changes, 8)
        shelf.undo()
        shelf.undo()
        self.assertEqual((shelf.changes, shelf.thing("q")), (6, SQUARE))

    def test_an_empty_shelf(self):
        shelf = Shelf()
        self.assertEqual(told_by(shelf), ((), (), 0))
        self.assertTrue(shelf)
        self.equals_itself_alone(shelf, Shelf(), SQUARE, shelf.trial())
        self.tells(NothingToUndo(), shelf.undo)

    def test_what_was_told_is_not_changed(self):
        shelf = a_shelf()
        shelf.claim(("order", "q", 8))
        names, claims = shelf.names, shelf.claims
        shelf.drop("u")
        shelf.lift(0)
        self.assertEqual((names, claims), (("q", "s", "t", "three", "u", "w"), (("order", "q", 8),)))


class Stop(Exception):
    pass


class Trials(Telling):
    def test_what_was_done_stays(self):
        shelf = a_shelf()
        with shelf.trial() as inner:
            self.assertIs(inner, shelf)
            shelf.claim(("order", "q", 8))
            inner.drop("three")
        self.assertEqual(told_by(shelf), (("q", "s", "t", "u", "w"), (("order", "q", 8),), 8))
        shelf.undo()
        self.assertEqual(told_by(shelf), (("q", "s", "t", "three", "u", "w"), (("order", "q", 8),), 7))

    def test_exceptions(self):
        for stopped in (Stop(), Broken(0, 1), KeyboardInterrupt()):
            shelf = a_shelf()
            before = told_by(shelf)
            with self.assertRaises(type(stopped)) as caught:
                with shelf.trial():
                    shelf.drop("three")
                    shelf.undo()
                    shelf.undo()
                    shelf.undo()
                    shelf.put("new", "a")
                    raise stopped
            self.assertIs(caught.exception, stopped)
            self.assertEqual(told_by(shelf), before)
            shelf.undo()
            self.assertEqual(shelf.names, ("q", "s", "t", "u", "w"))

    def test_errors_of_the_shelf(self):
        shelf = a_shelf()
        before = told_by(shelf)
        with self.assertRaises(Broken):
            with shelf.trial():
                shelf.claim(("one reach", "q"))
                shelf.claim(("order", "q", 9))
        self.assertEqual(told_by(shelf), before)

    def test_errors_that_are_caught_within(self):
        shelf = a_shelf()
        with shelf.trial():
            self.tells(Broken(0, 8), shelf.claim, ("order", "q", 9))
            shelf.drop("u")
        self.assertEqual(shelf.changes, 7)

    def test_rows_that_are_left(self):
        shelf = a_shelf()
        for _ in range(2):
            with shelf.trial():
                shelf.drop("u")
                break
        self.assertEqual(shelf.names, ("q", "s", "t", "three", "w"))

    def test_within_one_another(self):
        shelf = a_shelf()
        trial = shelf.trial()
        with trial:
            shelf.drop("u")
            between = told_by(shelf)
            with self.assertRaises(Stop):
                with trial:
                    shelf.drop("t")
                    with trial:
                        shelf.drop("s")
                    self.assertEqual(shelf.names, ("q", "three", "w"))
                    raise Stop()
            self.assertEqual(told_by(shelf), between)
        self.assertEqual(told_by(shelf), between)
        with self.assertRaises(Stop):
            with trial:
                with shelf.trial():
                    shelf.drop("t")
                raise Stop()
        self.assertEqual(told_by(shelf), between)

    def test_not_used(self):
        shelf = a_shelf()
        shelf.trial()
        shelf.drop("u")
        self.assertEqual(shelf.changes, 7)

    def test_tried(self):
        shelf = a_shelf()
        self.assertEqual(shelf.tried(lambda inner: (inner is shelf, inner.drop("u"), inner.changes)), (True, None, 7))
        self.assertEqual(shelf.changes, 7)
        before = told_by(shelf)
        self.raised(UnknownName, shelf.tried, lambda inner: (inner.drop("t"), inner.drop("t")))
        self.raised(Stop, shelf.tried, lambda inner: (inner.undo(), stop()))
        self.assertEqual(told_by(shelf), before)
        self.assertIsNone(shelf.tried(action=lambda inner: inner.undo()))
        self.assertEqual(shelf.changes, 6)


def stop():
    raise Stop()


def no_things():
    wrong = [value for value in no_boards() if not isinstance(value, str) or value == "" or value[:1] in "0123"]
    return wrong + ["A", "a b", "a" * 25, "a\n", "a1", "-" * 25, ("a",), ["aabb"], SQUARE.text, Board, Shelf()]


# None of these has the form of a claim.
NO_CLAIMS = NO_VALUES + [0, (), "order", ("order",), ("order", "q"), ("order", "q", 8, 8), ["order", "q", 8],
                         ("Order", "q", 8), ("one", "q")]
NO_CLAIMS += [("one reach",), ("one reach", "q", "q"), ("onereach", "q"), ("within", "q"), ("within", "q", "w", "w"),
              ("goes", "q", "s")]
NO_CLAIMS += [("goes", "q", "s", "t", "t"), ("never", "q", "s"), ("inside", "q"), ("outside", "q"),
              ("inside", "q", (0,), (0,)), ("led", "q", 0, 1)]
NO_CLAIMS += [(value, "q", 8) for value in NO_VALUES] + [((), "q"), (("one reach",), "q"), nested(20), ("", "q"),
                                                         ("one reach ", "q")]
NO_CLAIMS += [("order", "q", value) for value in NO_INTEGERS + [-1, 10 ** 30 + 1,
                                                                -8]] + [("order", "q", "8"), ("order", "x", -1)]


class Wrong(Telling):
    def setUp(self):
        self.shelf = a_shelf()
        self.shelf.claim(("order", "q", 8))
        self.before = told_by(self.shelf)

    def tearDown(self):
        self.assertEqual(told_by(self.shelf), self.before)

    def test_names_of_arguments(self):
        self.takes(Shelf)
        self.takes(self.shelf.put, "name", "thing")
        for call in (self.shelf.thing, self.shelf.drop):
            self.takes(call, "name")
        self.takes(self.shelf.claim, "claim")
        self.takes(self.shelf.lift, "index")
        self.takes(self.shelf.tried, "action")
        for call in (self.shelf.undo, self.shelf.trial):
            self.takes(call)

    def test_wrong_names(self):
        some = [value for value in NO_VALUES if not isinstance(value,
                                                               str)] + [0, (), ("q",), "", "Q", "q1", "q ", "abcdefghi", "-", nested(20)]
        for wrong in some:
            self.tells(InvalidName(wrong), self.shelf.put, wrong, "a")
        for wrong in some + ["x", "tie"]:
            self.tells(UnknownName(wrong), self.shelf.thing, wrong)
            self.tells(UnknownName(wrong), self.shelf.drop, wrong)

    def test_no_things(self):
        for wrong in no_things():
            self.tells(NotAThing(wrong), self.shelf.put, "x", wrong)
            self.tells(NotAThing(wrong), self.shelf.put, "q", wrong)

    def test_no_claims(self):
        for wrong in NO_CLAIMS:
            self.tells(InvalidClaim(wrong), self.shelf.claim, wrong)
        for turn in wrong_turns():
            for word in ("inside", "outside"):
                wrong = (word, "q", turn)
                self.tells(InvalidClaim(wrong), self.shelf.claim, wrong)

    def test_unknown_names(self):
        names = [value for value in NO_VALUES if not isinstance(value,
                                                                str)] + [0, (), ("q",), "", "x", "Q", "tie", nested(19)]
        for wrong in names:
            for claim in HOLDING:
                named = [at + 1 for at, part in enumerate(WORDS[claim[0]]) if part in "AS"]
                for at in named:
                    bent = claim[:at] + (wrong,) + claim[at + 1:]
                    self.tells(UnknownName(wrong), self.shelf.claim, bent)
                    later = tuple("nothing" if index in named and index > at else told for index,
                                  told in enumerate(bent))
                    self.tells(UnknownName(wrong), self.shelf.claim, later)

    def test_names_of_the_other_sort(self):
        for claim in HOLDING:
            for at, (part, _) in enumerate(named_in(claim)):
                at = [index for index, told in enumerate(WORDS[claim[0]]) if told in "AS"][at] + 1
                wrong = "s" if part == "A" else "q"
                self.tells(UnknownName(wrong), self.shelf.claim, claim[:at] + (wrong,) + claim[at + 1:])

    def test_wrong_indexes(self):
        for wrong in NO_INTEGERS + [-1, 1, 2, 10 ** 30]:
            self.tells(InvalidIndex(wrong), self.shelf.lift, wrong)
        self.tells(InvalidIndex(0), Shelf().lift, 0)

    def test_order_of_errors(self):
        self.tells_in_order(self.shelf.put, ("x", "a"), (0, "", InvalidName("")), (1, "", NotAThing("")))
        self.tells_in_order(self.shelf.put, ("q", SQUARE), (0, "", InvalidName("")), (1, 0, NotAThing(0)),
                            (1, "aabb", InUse(0)))
        self.tells_in_order(self.shelf.put, ("q", SQUARE), (0, 0, InvalidName(0)), (1, 1, NotAThing(1)),
                            (1, ring(4), Broken(0, 4)))
        # Ahead of what is broken, names are asked; ahead of these, numbers and turns.
        claim = ("order", "x", True)
        self.tells(InvalidClaim(claim), self.shelf.claim, claim)
        claim = ("inside", 5, (0, 0))
        self.tells(InvalidClaim(claim), self.shelf.claim, claim)
        self.tells(UnknownName("x"), self.shelf.claim, ("inside", "x", (0,)))
        self.tells(UnknownName("y"), self.shelf.claim, ("goes", "three", "s", "y"))


if __name__ == "__main__":
    unittest.main()
