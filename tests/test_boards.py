"""Tests of seatbuttons.boards."""

import inspect
import itertools
import unittest

from seatbuttons.boards import Board, named, placed, with_button, without
from seatbuttons.errors import InvalidButtons, InvalidName, InvalidNames, InvalidNumber, InvalidText, InvalidTies
from seatbuttons.errors import InvalidTurn, NotABoard, OtherSize, TooMany, UnknownName

from tests.support import NO_INTEGERS, NO_PLACES, NO_VALUES, Agreeing, Stubborn, Telling, all_turns, nested
from tests.support import no_boards, staying, wrong_turns

SWAP, RING, STAY = (1, 0, 2), (1, 2, 0), (0, 1, 2)
EIGHT = tuple((letter, SWAP) for letter in "abcdefgh")
LONG = tuple(range(23, -1, -1))

NO_NAMES = NO_VALUES + [0, (), ("a",), "A", "aB", "a1", "1", "a ", " a", "a b", " ", "a-b", "a_b", "a\n", "\n", ";"]
NO_NAMES += ["abcdefghi", "a" * 9, "a" * 8000, "~", "a;", "{", "`", ">", "", nested(20)]
NO_NAMES.remove("a")


def board():
    return Board(3, (("b", RING), ("a", SWAP)), ((0, 1), (1, 2)))


class Parts(Telling):
    """What a board is made of, and what it tells of itself."""

    def check(self, made, size, buttons, ties):
        self.assertEqual(repr(made.size), repr(size))
        self.assertEqual(repr(made.buttons), repr(buttons))
        self.assertEqual(repr(made.ties), repr(ties))
        self.assertEqual(repr(made.names), repr(tuple(name for name, _ in buttons)))
        parts = [f"{size}"]
        parts += [" ".join([name] + [f"{place}" for place in turn]) for name, turn in buttons]
        parts += [f"tie {one} {other}" for one, other in ties]
        self.assertEqual(repr(made.text), repr(" ; ".join(parts)))
        self.assertEqual(str(made), made.text)
        told = f"Board of {size} places, {len(buttons)} buttons, {len(ties)} ties"
        self.assertEqual(repr(made), told)
        for name, turn in buttons:
            self.gives(turn, made.turn, name)
        self.assertTrue(made)

    def test_sizes(self):
        for size in range(1, 25):
            self.check(Board(size, (), ()), size, (), ())
            self.check(Board(ties=(), buttons=(("z", staying(size)),), size=size), size, (("z", staying(size)),), ())

    def test_one_place(self):
        self.assertEqual(Board(1, (), ()).text, "1")
        self.assertEqual(Board(1, (("a", (0,)),), ()).text, "1 ; a 0")

    def test_24_places(self):
        ties = tuple(itertools.combinations(range(24), 2))
        made = Board(24, (("turnover", LONG),), ties)
        self.check(made, 24, (("turnover", LONG),), ties)
        self.assertTrue(made.text.startswith("24 ; turnover 23 22 21 20 "))
        self.assertTrue(made.text.endswith(" ; tie 21 23 ; tie 22 23"))

    def test_buttons_in_any_order(self):
        buttons = (("a", SWAP), ("ab", RING), ("b", SWAP), ("tied", STAY))
        for order in itertools.permutations(buttons):
            self.check(Board(3, order, ()), 3, buttons, ())

    def test_names(self):
        buttons = (("aaaaaaaa", SWAP), ("q", SWAP), ("ti", SWAP), ("ties", SWAP), ("zzzzzzzz", RING))
        self.check(Board(3, buttons, ()), 3, buttons, ())
        for letter in "abcdefghijklmnopqrstuvwxyz":
            self.check(Board(3, ((letter, RING),), ()), 3, ((letter, RING),), ())

    def test_eight_buttons(self):
        self.check(Board(3, EIGHT[::-1], ()), 3, EIGHT, ())

    def test_the_same_turn_twice(self):
        self.check(Board(3, (("x", RING), ("y", RING)), ()), 3, (("x", RING), ("y", RING)), ())

    def test_unknown_names(self):
        made = board()
        self.takes(made.turn, "name")
        for name in NO_NAMES + ["c", "tie", "aa", "ab", "b a"]:
            self.tells(UnknownName(name), made.turn, name)
        self.tells(UnknownName(given="a"), Board(3, (), ()).turn, "a")

    def test_properties_and_methods_stand_in_the_class(self):
        for name in ("size", "buttons", "ties", "names", "text"):
            self.assertIsInstance(vars(Board)[name], property)
            with self.assertRaises(AttributeError):
                setattr(board(), name, None)
        for name in ("__init__", "__eq__", "__str__", "__repr__", "read", "turn"):
            self.assertIn(name, vars(Board))
        self.assertEqual(list(inspect.signature(Board).parameters), ["size", "buttons", "ties"])
        self.takes(Board, "size", "buttons", "ties")
        self.takes(Board.read, "text")

    def test_what_is_passed_is_not_changed(self):
        buttons, ties = (("b", RING), ("a", SWAP)), ((0, 1), (1, 2))
        made = Board(3, buttons, ties)
        made.turn("a")
        self.assertEqual((buttons, ties), ((("b", RING), ("a", SWAP)), ((0, 1), (1, 2))))


class WrongParts(Telling):
    def test_sizes(self):
        for size in NO_INTEGERS + [0, -1, 25, 26, 10 ** 30, -10 ** 30]:
            self.tells(InvalidNumber(size), Board, size, (), ())

    def test_no_tuples(self):
        for wrong in NO_VALUES + [0, [("a", SWAP)], {"a": SWAP}, {("a", SWAP)}, "a"]:
            self.tells(InvalidButtons(None), Board, 3, wrong, ())
            self.tells(InvalidTies(None), Board, 3, (), wrong)

    def test_no_buttons(self):
        wrong = [value for value in NO_PLACES + [1, ("a",), ("a", SWAP, SWAP), ["a", SWAP], (SWAP, "a"), "ab"]]
        wrong += [(name, SWAP) for name in NO_NAMES + ["tie"]]
        wrong += [("a", turn) for turn in wrong_turns() + [(0,), (1, 0), (0, 1, 2, 3), LONG]]
        wrong += [("tie", SWAP, 1), ((), SWAP), (("a", SWAP), ("b", SWAP)), nested(20)]
        for button in wrong:
            self.tells(InvalidButtons(0), Board, 3, (button,), ())
            self.tells(InvalidButtons(1), Board, 3, (("x", RING), button), ())
            self.tells(InvalidButtons(1), Board, 3, (("x", RING), button, button), ())
            self.tells(InvalidButtons(7), Board, 3, (*EIGHT[1:], button), ())

    def test_a_name_twice(self):
        self.tells(InvalidButtons(1), Board, 3, (("a", SWAP), ("a", SWAP)), ())
        self.tells(InvalidButtons(1), Board, 3, (("a", SWAP), ("a", RING)), ())
        self.tells(InvalidButtons(2), Board, 3, (("a", SWAP), ("b", RING), ("a", RING), ("b", RING)), ())
        self.tells(InvalidButtons(7), Board, 3, (*EIGHT[:7], ("a", RING)), ())

    def test_nine_buttons(self):
        self.tells(InvalidButtons(8), Board, 3, (*EIGHT, ("i", SWAP)), ())
        self.tells(InvalidButtons(8), Board, 3, (*EIGHT, None), ())
        self.tells(InvalidButtons(8), Board, 3, (*EIGHT, ("a", SWAP), ("tie", SWAP)), ())
        self.tells(InvalidButtons(7), Board, 3, (*EIGHT[:7], ("tie", SWAP), ("i", SWAP)), ())
        self.tells(InvalidButtons(8), Board, 3, (*EIGHT, *EIGHT), ())

    def test_no_ties(self):
        wrong = NO_PLACES + [0, 1, (0,), (0, 1, 2), [0, 1], (1, 0), (2, 1), (0, 0), (2, 2), (0, 3), (2, 3), (-1, 0)]
        wrong += [(place, 1) for place in NO_PLACES] + [(0, place) for place in NO_PLACES] + [((0, 1), (1, 2))]
        for tie in wrong:
            self.tells(InvalidTies(0), Board, 3, (), (tie,))
            self.tells(InvalidTies(1), Board, 3, (), ((0, 1), tie))
            self.tells(InvalidTies(1), Board, 3, (), ((0, 1), tie, tie))

    def test_ties_ascend(self):
        ties = ((0, 1), (0, 2), (0, 3), (1, 2), (1, 3), (2, 3))
        self.assertEqual(Board(4, (), ties).ties, ties)
        for one, other in itertools.product(ties, repeat=2):
            if one < other:
                self.assertEqual(Board(4, (), (one, other)).ties, (one, other))
            else:
                self.tells(InvalidTies(1), Board, 4, (), (one, other))
        self.tells(InvalidTies(2), Board, 4, (), ((0, 1), (2, 3), (1, 3), (1, 2)))
        self.tells(InvalidTies(6), Board, 4, (), (*ties, ties[-1]))

    def test_order_of_errors(self):
        self.tells_in_order(
            Board, (3, EIGHT, ((0, 1),)), (0, True, InvalidNumber(True)), (1, (*EIGHT, None), InvalidButtons(8)),
            (2, [(0, 1)], InvalidTies(None)),
        )
        # The wrong size is told, and not that the turns and ties are of another one.
        self.tells(InvalidNumber(25), Board, 25, EIGHT, ((0, 30),))


class Texts(Telling):
    TEXTS = """
        1
        1 ; a 0
        2
        24
        2 ; tie 0 1
        3 ; a 1 0 2
        3 ; a 1 0 2 ; b 0 2 1 ; tie 0 1
        3 ; tie 0 1 ; tie 0 2 ; tie 1 2
        4 ; ab 3 2 1 0 ; abc 0 1 2 3 ; b 1 2 3 0 ; tie 0 3 ; tie 1 2
        11 ; a 10 9 8 7 6 5 4 3 2 1 0 ; tie 9 10
        24 ; zzzzzzzz 1 2 3 4 5 6 7 8 9 10 11 12 13 14 15 16 17 18 19 20 21 22 23 0"""
    TEXTS = [line.strip() for line in TEXTS.strip().split("\n")]

    # Texts that are those of no board, each one between two bars.
    NO_TEXTS = """
        |0|25|03|+3|-3|3.0|3;|3 ;| 3|3 |x|tie|3 ; |3 ;a 1 0 2|3; a 1 0 2|3  ; a 1 0 2|3 ;  a 1 0 2|300|
        |3 ; a 1 0 2 |3 ; a 1 0 2 ;|3 ; a 1 0 2 ; |3 ; a 1 0|3 ; a 1 0 2 3|3 ; a|3 ; a 1 0 3|3 ; a 1 0 0|
        |3 ; a 1 0 02|3 ; a 1 0 -2|3 ; a 1 0 +2|3 ; a 1  0 2|3 ; a1 0 2|3 ; 1 0 2|3 ; A 1 0 2|4 ; a 1 0 2|
        |3 ; a 1 0 2 ; a 0 1 2|3 ; a 1 0 2 ; a 1 0 2|3 ; b 1 0 2 ; a 1 0 2|3 ; tie 0 1 ; a 1 0 2|3 ; tie 1 0|
        |3 ; tie 0 0|3 ; tie 0 3|3 ; tie 0|3 ; tie 0 1 2|3 ; tie 0 1 ; tie 0 1|3 ; tie 0 2 ; tie 0 1|3 ; tie|
        |3 ; tie 0  1|3 ; tie 00 1|3 ; tie 1 0 2|3 ; abcdefghi 1 0 2|3 ; a 1 0 2 b 1 0 2|3 a 1 0 2|3 ; ties 0 1|
        |3 3 ; a 1 0 2|3 ; a 1 0 2 ; 3|3 ; a 1 0 2 ; tie|3 ; tie 0 1 ; b 1 0 2|3 ; a 1 0 2 ; ; tie 0 1|
        |3 ; ; a 1 0 2|3 ; a 1 0 2 ; b|3 ; a 1 0 2 tie 0 1|3 : a 1 0 2|3 ; a 1,0,2|3 ; tie 0 24|3 ; tie 0 111111|
        |3 ; a 1 0 200||;| ; | |"""
    NO_TEXTS = [text for line in NO_TEXTS.strip().split("\n") for text in line.strip()[1:-1].split("|")]

    def test_read_and_written(self):
        self.assertEqual(len(self.TEXTS), 11)
        for text in self.TEXTS:
            self.assertEqual(Board.read(text).text, text)
            self.assertEqual(Board.read(text=text), Board.read(text))

    def test_written_and_read(self):
        for turns in itertools.combinations(all_turns(3), 2):
            made = Board(3, tuple(zip("ba", turns)), ((0, 2),))
            again = Board.read(made.text)
            self.assertEqual((again.size, again.buttons, again.ties), (made.size, made.buttons, made.ties))
        made = Board(24, tuple((name * 8, LONG) for name in "abcdefgh"), tuple(itertools.combinations(range(24), 2)))
        self.assertEqual(Board.read(made.text), made)

    def test_no_texts(self):
        for value in NO_VALUES + [0, 3, (), ("3",), ["3"], b"3", board()]:
            self.tells(InvalidText(value), Board.read, value)

    def test_texts_of_none(self):
        self.assertEqual(len(self.NO_TEXTS), 70)
        for text in self.NO_TEXTS:
            self.tells(InvalidText(text), Board.read, text)
        nine = " ; ".join(["3"] + [f"{name} 1 0 2" for name in "abcdefghi"])
        self.assertEqual(len(Board.read(nine[:-10]).names), 8)
        self.tells(InvalidText(nine), Board.read, nine)
        for text in ("3\n", "\n3", "3 ; a 1 0 2\n", "3 ; a 1\n0 2", "3 ;\na 1 0 2", "1" * 5000, "3 ; a " + "1" * 5000):
            self.tells(InvalidText(text), Board.read, text)

    def test_texts_near_a_text(self):
        """A sign left out, doubled, put in, another in its place: the text of none, or of just this one."""
        text = "11 ; a 10 0 1 2 3 4 5 6 7 8 9 ; b 0 1 2 3 4 5 6 7 8 9 10 ; tie 0 1 ; tie 0 10"
        near = {text[:at] + text[at + 1:] for at in range(len(text))}
        near |= {text[:at] + text[at] + text[at:] for at in range(len(text))}
        near |= {text[:at] + sign + text[at:] for at in range(len(text) + 1) for sign in "0 ;a-1t\n"}
        near |= {text[:at] + sign + text[at + 1:] for at in range(len(text)) for sign in "0 ;a-1t\nA~"}
        near |= {text[:at] for at in range(len(text))} | {text[at:] for at in range(1, len(text))}
        parts = text.split(" ; ")
        near |= {" ; ".join(order) for order in itertools.permutations(parts)} | {text + " ; " + part for part in parts}
        read = 0
        for other in sorted(near - {text}):
            try:
                made = Board.read(other)
            except InvalidText as error:
                self.assertIs(error.given, other)
                continue
            read += 1
            self.assertEqual(made.text, other)
            self.assertNotEqual(made, Board.read(text))
        self.assertGreater(read, 10)


class Likeness(unittest.TestCase):
    def others(self):
        """Boards that are unlike in one thing each."""
        return [
            board(), Board(4, (), ()), Board(3, (), ()), Board(3, (("b", RING), ("a", SWAP)), ()),
            Board(3, (("b", RING), ("a", SWAP)), ((0, 1),)), Board(3, (("b", RING), ("a", SWAP)), ((0, 1), (0, 2))),
            Board(3, (("c", RING), ("a", SWAP)), ((0, 1), (1, 2))), Board(3, (("a", RING), ("b", SWAP)), ((0, 1), (1, 2))),
            Board(3, (("b", RING),), ((0, 1), (1, 2))), Board(3, (("b", RING), ("a", STAY)), ((0, 1), (1, 2))),
        ]

    def test_equal_exactly_if_the_texts_are(self):
        for one, other in itertools.product(self.others(), repeat=2):
            self.assertIs(one == other, one.text == other.text)
            self.assertIs(one != other, one.text != other.text)
        self.assertEqual(len({other.text for other in self.others()}), 10)

    def test_order_of_buttons_does_not_matter(self):
        one, other = Board(3, (("a", SWAP), ("b", RING)), ()), Board(3, (("b", RING), ("a", SWAP)), ())
        self.assertIs(one == other, True)
        self.assertIs(one != other, False)

    def test_others_are_never_equal(self):
        made = board()
        for other in no_boards() + [made.text, (made,), 3, len]:
            if isinstance(other, (Stubborn, Agreeing)):
                self.assertIs(made == other, False)
                self.assertIs(made != other, True)
                continue
            self.assertIs(made == other, False)
            self.assertIs(other == made, False)
            self.assertIs(made != other, True)
            self.assertIs(other != made, True)
        self.assertIs(made == made, True)
        self.assertIs(made != made, False)


class Changed(Telling):
    """Boards with one thing otherwise; the board that was passed stays as it was."""

    def setUp(self):
        self.board = board()
        self.before = (dict(vars(self.board)), self.board.text, self.board.buttons, self.board.ties)

    def tearDown(self):
        after = (dict(vars(self.board)), self.board.text, self.board.buttons, self.board.ties)
        self.assertEqual(after, self.before)

    def makes(self, text, call, *arguments):
        names = list(inspect.signature(call).parameters)
        self.assertEqual(call(*arguments).text, text)
        made = call(**dict(zip(names, arguments)))
        self.assertIs(type(made), Board)
        self.assertEqual(made, Board.read(text))

    def test_names_of_arguments(self):
        self.takes(with_button, "board", "name", "turn")
        self.takes(without, "board", "name")
        self.takes(placed, "board", "turn")
        self.takes(named, "board", "names")

    def test_with_button(self):
        made = self.board
        self.makes("3 ; a 1 0 2 ; b 1 2 0 ; c 0 2 1 ; tie 0 1 ; tie 1 2", with_button, made, "c", (0, 2, 1))
        self.makes("3 ; a 1 0 2 ; aa 0 2 1 ; b 1 2 0 ; tie 0 1 ; tie 1 2", with_button, made, "aa", (0, 2, 1))
        self.makes("3 ; a 0 2 1 ; b 1 2 0 ; tie 0 1 ; tie 1 2", with_button, made, "a", (0, 2, 1))
        self.makes("3 ; a 1 0 2 ; b 0 1 2 ; tie 0 1 ; tie 1 2", with_button, made, "b", STAY)
        self.makes("1 ; z 0", with_button, Board(1, (), ()), "z", (0,))

    def test_with_button_on_a_full_board(self):
        full, no_turn = Board(3, EIGHT, ()), (0, 0, 0)
        self.assertEqual(with_button(full, "c", RING).names, full.names)
        self.assertEqual(with_button(full, "c", RING).turn("c"), RING)
        self.tells(TooMany(8), with_button, full, "i", RING)
        self.assertEqual(len(with_button(Board(3, EIGHT[1:], ()), "a", SWAP).names), 8)
        self.tells_in_order(
            with_button, (full, "a", RING), (0, None, NotABoard(None)), (1, "tie", InvalidName("tie")),
            (2, no_turn, InvalidTurn(no_turn)), (2, (1, 0), OtherSize()), (1, "i", TooMany(8)),
        )

    def test_wrong_arguments_of_with_button(self):
        for wrong in no_boards():
            self.tells(NotABoard(wrong), with_button, wrong, "a", SWAP)
        for wrong in NO_NAMES + ["tie"]:
            self.tells(InvalidName(wrong), with_button, self.board, wrong, SWAP)
        for wrong in wrong_turns():
            self.tells(InvalidTurn(wrong), with_button, self.board, "c", wrong)
        for turn in ((0,), (1, 0), (0, 1, 2, 3), LONG):
            self.tells(OtherSize(), with_button, self.board, "c", turn)

    def test_without(self):
        self.makes("3 ; b 1 2 0 ; tie 0 1 ; tie 1 2", without, self.board, "a")
        self.makes("3 ; a 1 0 2 ; tie 0 1 ; tie 1 2", without, self.board, "b")
        self.makes("3", without, Board(3, (("a", SWAP),), ()), "a")

    def test_wrong_arguments_of_without(self):
        for wrong in NO_NAMES + ["c", "tie", "aa"]:
            self.tells(UnknownName(wrong), without, self.board, wrong)
        for wrong in no_boards():
            self.tells(NotABoard(wrong), without, wrong, "a")
        self.tells_in_order(without, (self.board, "a"), (0, 3, NotABoard(3)), (1, "c", UnknownName("c")))

    def test_placed(self):
        for turn in all_turns(3):
            made = placed(self.board, turn)
            for name in ("a", "b"):
                # A button leads the new name of a place to the new name of where it led the place.
                for place in range(3):
                    self.assertEqual(made.turn(name)[turn[place]], turn[self.board.turn(name)[place]])
            ties = sorted(tuple(sorted((turn[one], turn[other]))) for one, other in self.board.ties)
            self.assertEqual(made.ties, tuple(ties))
            self.makes(made.text, placed, self.board, turn)
        self.makes(self.board.text, placed, self.board, STAY)
        self.makes("2", placed, Board(2, (), ()), (1, 0))

    def test_placed_with_ties_that_change_places(self):
        made = placed(Board(4, (), ((0, 1), (0, 2), (2, 3))), (3, 1, 0, 2))
        self.assertEqual(made.ties, ((0, 2), (0, 3), (1, 3)))

    def test_wrong_arguments_of_placed(self):
        for wrong in no_boards():
            self.tells(NotABoard(wrong), placed, wrong, SWAP)
        for wrong in wrong_turns():
            self.tells(InvalidTurn(wrong), placed, self.board, wrong)
        self.tells_in_order(
            placed, (self.board, SWAP), (0, "3", NotABoard("3")), (1, "102", InvalidTurn("102")), (1, (1, 0), OtherSize()),
        )

    def test_named(self):
        self.makes("3 ; x 1 2 0 ; y 1 0 2 ; tie 0 1 ; tie 1 2", named, self.board, ("y", "x"))
        self.makes("3 ; x 1 0 2 ; y 1 2 0 ; tie 0 1 ; tie 1 2", named, self.board, ("x", "y"))
        self.makes("3 ; a 1 2 0 ; b 1 0 2 ; tie 0 1 ; tie 1 2", named, self.board, ("b", "a"))
        self.makes(self.board.text, named, self.board, ("a", "b"))
        self.makes("3", named, Board(3, (), ()), ())
        self.assertEqual(named(Board(3, EIGHT, ()), tuple("stuvwxyz")).names, tuple("stuvwxyz"))

    def test_wrong_names(self):
        for wrong in NO_VALUES + [0, (), ("x",), ("x", "y", "z"), ["x", "y"], "xy", {"x": 1, "y": 2}, ("tie",)]:
            self.tells(InvalidNames(None), named, self.board, wrong)
        for wrong in NO_NAMES + ["tie"]:
            self.tells(InvalidNames(0), named, self.board, (wrong, "x"))
            self.tells(InvalidNames(0), named, self.board, (wrong, wrong))
            self.tells(InvalidNames(1), named, self.board, ("x", wrong))
        self.tells(InvalidNames(1), named, self.board, ("x", "x"))
        self.tells(InvalidNames(None), named, Board(3, (), ()), ("a",))
        self.tells(InvalidNames(2), named, Board(3, EIGHT[:4], ()), ("x", "y", "x", "y"))
        for wrong in no_boards():
            self.tells(NotABoard(wrong), named, wrong, ())
        self.tells_in_order(named, (self.board, ("x", "y")), (0, None, NotABoard(None)), (1, ("x", "x"), InvalidNames(1)))


if __name__ == "__main__":
    unittest.main()
