"""Tests of seatbuttons.console against the functions and methods that its commands name."""

import itertools
import unittest

from seatbuttons.blocks import blocks_with
from seatbuttons.boards import Board
from seatbuttons.chains import inside, order, within
from seatbuttons.console import Console
from seatbuttons.errors import Broken, InUse, InvalidCommand, InvalidIndex, InvalidPlace, InvalidStanding, InvalidText
from seatbuttons.errors import NothingToUndo, OtherSize, TooMany, UnknownName
from seatbuttons.likeness import alike
from seatbuttons.places import reaches
from seatbuttons.presses import on, pressed, row_of
from seatbuttons.shelves import Shelf
from seatbuttons.sorts import sorts
from seatbuttons.standings import all_reached, goes, least

from tests.groups import apart, board_of, evens, ring, whole
from tests.shelving import told_by
from tests.support import NO_VALUES, Telling, all_turns, nested, staying

SQUARE = Board(4, (("f", (1, 0, 3, 2)), ("r", (1, 2, 3, 0))), ())
BOARDS = {"q": SQUARE, "w": whole(4), "pairs": Board(4, (("f", (1, 0, 3, 2)),), ((0, 1), (1, 2))), "three": ring(3),
          "two": apart(2, 3), "one": Board(1, (), ()), "x": Board(4, (("a", (3, 0, 1, 2)), ("zz", (1, 0, 3, 2))), ())}
STANDINGS = {"s": "aabb", "t": "abab", "u": "-z-a", "v": "abc", "l": "-", "tie": "aaab-"}


def a_console():
    console = Console()
    for name, board in BOARDS.items():
        console.shelf.put(name, board)
    for name, standing in STANDINGS.items():
        console.shelf.put(name, standing)
    return console


def spaced(words):
    return " ".join(str(word) for word in words)


class Commands(Telling):
    def setUp(self):
        self.console = a_console()
        self.before = told_by(self.console.shelf)

    def asked(self, answer, command):
        """The answer to a command that changes nothing."""
        self.gives(answer, self.console.run, command)
        self.assertEqual(told_by(self.console.shelf), self.before)

    def test_order(self):
        for name, board in BOARDS.items():
            self.asked(str(order(board)), f"order {name}")
        self.asked("8", "order q")

    def test_inside(self):
        for name, board in BOARDS.items():
            for turn in all_turns(board.size)[::5]:
                self.asked("yes" if inside(board, turn) else "no", f"inside {name} {spaced(turn)}")
        self.tells(OtherSize(), self.console.run, "inside q 0 1 2")
        self.tells(OtherSize(), self.console.run, "inside q " + spaced(range(24)))

    def test_goes(self):
        for one, other in itertools.product("stu", repeat=2):
            for name in ("q", "w", "pairs", "x"):
                told = goes(BOARDS[name], STANDINGS[one], STANDINGS[other])
                self.asked("yes" if told else "no", f"goes {name} {one} {other}")
        self.tells(InvalidStanding("abc"), self.console.run, "goes q s v")
        self.tells(InvalidStanding("abc"), self.console.run, "goes q v l")

    def test_within_and_alike(self):
        for one, other in itertools.product(BOARDS, repeat=2):
            if BOARDS[one].size == BOARDS[other].size:
                self.asked("yes" if within(BOARDS[one], BOARDS[other]) else "no", f"within {one} {other}")
                self.asked("yes" if alike(BOARDS[one], BOARDS[other]) else "no", f"alike {one} {other}")
            else:
                for word in ("within", "alike"):
                    self.tells(OtherSize(), self.console.run, f"{word} {one} {other}")
        self.asked("yes", "alike q x")
        self.asked("no", "alike q w")
        self.console.shelf.put("many", board_of(*[staying(4)] * 6))
        self.tells(TooMany(5), self.console.run, "alike q many")

    def test_turn_and_press(self):
        for text in ("-", "r", "r f", "r-1 f2 r1000000000000000000000000000000", "f-1000000000000000000000000000000",
                     "f f f"):
            row = row_of(SQUARE, text)
            self.asked(spaced(pressed(SQUARE, row)), f"turn q {text}")
            for name in "stu":
                self.asked(on(SQUARE, row, STANDINGS[name]), f"press q {name} {text}")
        many = spaced(["r", "f-3"] * 1000)
        self.asked(spaced(pressed(SQUARE, row_of(SQUARE, many))), f"turn q {many}")
        self.asked("0", "turn one -")
        self.asked("aaab-", "press two tie -")

    def test_rows_of_other_boards(self):
        for text in ("a", "r a", "tie", "abcdefgh", "rr", "f g-7 h"):
            self.tells_text(text, f"turn q {text}")
            self.tells_text(text, f"press q s {text}")
        self.tells_text("r", "turn one r")
        # The standing is asked behind the row.
        self.tells_text("a", "press q v a")
        self.tells(InvalidStanding("abc"), self.console.run, "press q v r")

    def tells_text(self, text, command):
        told = self.raised(InvalidText, self.console.run, command)
        self.assertEqual(told.given, text)

    def test_least_and_count(self):
        for name in ("q", "w", "pairs", "x"):
            for standing in "stu":
                self.asked(least(BOARDS[name], STANDINGS[standing]), f"least {name} {standing}")
                self.asked(str(len(all_reached(BOARDS[name], STANDINGS[standing]))), f"count {name} {standing}")
        for word in ("least", "count"):
            self.tells(InvalidStanding("-"), self.console.run, f"{word} q l")
        self.console.shelf.put("g", whole(24))
        self.console.shelf.put("h", "abcdef" * 4)
        for command in ("least g h", "count g h", "goes g h h"):
            self.tells(TooMany(50000), self.console.run, command)

    def test_sorts(self):
        for name, board in BOARDS.items():
            for signs in (0, 1, 2, 5, 10 ** 30):
                self.asked(str(sorts(board, signs)), f"sorts {name} {signs}")
        self.console.shelf.put("g", evens(8))
        self.tells(TooMany(20000), self.console.run, "sorts g 2")

    def test_reaches_and_blocks(self):
        for name, board in BOARDS.items():
            self.asked(" , ".join(spaced(reach) for reach in reaches(board)), f"reaches {name}")
            for place in range(board.size):
                self.asked(" , ".join(spaced(block) for block in blocks_with(board, place)), f"blocks {name} {place}")
            told = self.raised(InvalidPlace, self.console.run, f"blocks {name} {board.size}")
            self.assertEqual(told.given, board.size)
        self.asked("0 1 , 2 3 4", "reaches two")
        self.asked("0 , 0 2 , 0 1 2 3", "blocks q 0")
        self.assertEqual(self.raised(InvalidPlace, self.console.run, "blocks q 1" + "0" * 30).given, 10 ** 30)

    def test_show_names_and_claims(self):
        for name, board in BOARDS.items():
            self.asked(board.text, f"show {name}")
        for name, standing in STANDINGS.items():
            self.asked(standing, f"show {name}")
        self.asked(spaced(sorted([*BOARDS, *STANDINGS])), "names")
        self.asked("0", "claims")
        self.gives("", Console().run, "names")
        self.gives("0", Console().run, "claims")

    def test_unknown_names(self):
        for command, wrong in (("order z", "z"), ("order s", "s"), ("inside s 0 1", "s"), ("goes z s t", "z"),
                               ("goes s s t", "s"),
                               ("goes q z t", "z"), ("goes q q t", "q"), ("goes q s z", "z"), ("goes q s q", "q"),
                               ("goes q z y", "z"),
                               ("within z y", "z"), ("within q z", "z"), ("within q s", "s"), ("within s z", "s"),
                               ("alike q z", "z"),
                               ("alike s q", "s"), ("turn z r", "z"), ("turn s nothing", "s"), ("press z s r", "z"),
                               ("press q z a", "z"),
                               ("press q q r", "q"), ("least z s", "z"), ("least q w", "w"), ("count q z", "z"),
                               ("count s q", "s"),
                               ("sorts z 2", "z"), ("sorts s 2", "s"), ("reaches z", "z"), ("reaches tie", "tie"),
                               ("blocks z 99", "z"),
                               ("blocks s 0", "s"), ("show z", "z"), ("drop z", "z"), ("claim order z 1", "z"),
                               ("claim order s 1", "s"),
                               ("claim goes q s q", "q"), ("claim never z y x", "z"), ("claim within q s", "s"),
                               ("claim one reach t", "t"), ("claim inside z 0", "z"), ("claim outside s 0", "s")):
            told = self.raised(UnknownName, self.console.run, command)
            self.assertEqual(told.given, wrong, command)
        self.assertEqual(told_by(self.console.shelf), self.before)


class Changes(Telling):
    def both(self, command, word, *arguments):
        """A command does with its shelf what a method does with another one."""
        before = told_by(self.console.shelf)
        self.assertEqual(before, told_by(self.shelf))
        self.assertEqual(self.console.run(command), "ok")
        getattr(self.shelf, word)(*arguments)
        self.assertEqual(told_by(self.console.shelf), told_by(self.shelf))
        for name in self.shelf.names:
            self.assertEqual(self.console.shelf.thing(name), self.shelf.thing(name))

    def test_all_changes(self):
        self.console, self.shelf = Console(), Shelf()
        self.both("board q " + SQUARE.text, "put", "q", SQUARE)
        self.both("board tie 3 ; tie 0 2", "put", "tie", Board(3, (), ((0, 2),)))
        self.both("board w " + whole(4).text, "put", "w", whole(4))
        self.both("board great " + whole(24).text, "put", "great", whole(24))
        self.both("standing s aabb", "put", "s", "aabb")
        self.both("standing t -z-a", "put", "t", "-z-a")
        self.both("standing abcdefgh " + "-" * 24, "put", "abcdefgh", "-" * 24)
        self.both("standing t abab", "put", "t", "abab")
        self.both("claim order q 8", "claim", ("order", "q", 8))
        self.both("claim inside q 1 2 3 0", "claim", ("inside", "q", (1, 2, 3, 0)))
        self.both("claim outside q 1 0 2 3", "claim", ("outside", "q", (1, 0, 2, 3)))
        self.both("claim goes q s s", "claim", ("goes", "q", "s", "s"))
        self.both("claim never q s t", "claim", ("never", "q", "s", "t"))
        self.both("claim within q w", "claim", ("within", "q", "w"))
        self.both("claim one reach q", "claim", ("one reach", "q"))
        self.assertEqual(self.console.run("claims"), "7")
        self.both("lift 3", "lift", 3)
        self.both("lift 0", "lift", 0)
        self.both("drop abcdefgh", "drop", "abcdefgh")
        while self.shelf.changes:
            self.both("undo", "undo")

    def test_what_is_refused(self):
        console = a_console()
        console.run("claim order q 8")
        console.run("claim goes q s s")
        before = told_by(console.shelf)
        for error, command in ((Broken(0, 4), "board q 4 ; r 1 2 3 0"), (Broken(2, 8), "claim order q 7"),
                               (InUse(0), "standing q a"),
                               (InUse(0), "drop q"), (InUse(1), "drop s"), (InUse(1), "board s 1"),
                               (Broken(2, None), "claim goes q s v"),
                               (Broken(1, None), "standing s abc"), (Broken(2, True), "claim outside q 0 1 2 3"),
                               (Broken(2, None), "claim inside q 0"), (Broken(2, 2), "claim one reach two")):
            self.tells(error, console.run, command)
        told = self.raised(InvalidIndex, console.run, "lift 2")
        self.assertEqual(told.given, 2)
        self.assertEqual(self.raised(InvalidIndex, console.run, "lift 1" + "0" * 30).given, 10 ** 30)
        self.assertEqual(told_by(console.shelf), before)
        self.tells(NothingToUndo(), Console().run, "undo")

    def test_the_shelf(self):
        console = Console()
        self.assertIs(type(console.shelf), Shelf)
        self.assertIs(console.shelf, console.shelf)
        self.assertEqual(told_by(console.shelf), ((), (), 0))
        console.shelf.put("s", "ab")
        self.assertEqual(console.run("show s"), "ab")
        console.run("drop s")
        self.assertFalse("s" in console.shelf)
        self.assertTrue(console)
        self.equals_itself_alone(console, Console(), console.shelf)
        self.assertIsNot(console.shelf, Console().shelf)


GOOD = ["board z 2 ; a 1 0", "standing z ab", "drop s", "lift 0", "undo", "claim order q 8", "claim inside q 0 1 2 3",
        "claim outside q 1 0 2 3", "claim goes q s t", "claim never q s t", "claim within q w", "claim one reach q",
        "order q",
        "inside q 0 1 2 3", "goes q s t", "within q w", "alike q w", "turn q r f", "press q s r", "least q s",
        "count q s",
        "sorts q 2", "reaches q", "blocks q 0", "show q", "names", "claims"]


class Wrong(Telling):
    def refused(self, *commands):
        console = a_console()
        before = told_by(console.shelf)
        for command in commands:
            self.tells(InvalidCommand(command), console.run, command)
        self.assertEqual(told_by(console.shelf), before)

    def test_names_of_arguments(self):
        self.takes(Console)
        self.takes(Console().run, "command")

    def test_no_strings(self):
        self.refused(*[value for value in NO_VALUES if not isinstance(value, str)], 0, (), ("names",), nested(20),
                     b"names", ["undo"])

    def test_spaces_and_words_too_many_or_too_few(self):
        for command in GOOD:
            words = command.split(" ")
            self.refused(" " + command, command + " ", command + "\n", "\n" + command, command.upper(),
                         " ".join(["", *words, ""]))
            self.refused(command.replace(" ", "  ") if " " in command else command + "  ",
                         command.replace(" ", "\n") + "\n")
            self.refused(" ".join([words[0][:-1], *words[1:]]), "-".join(words) + "-")
            if words[0] != "claim":
                self.refused(" ".join(words[1:]))
            for at in range(1, len(words)):
                self.refused(" ".join([*words[:at], "", *words[at:]]))
            if command[:4] not in ("turn", "pres"):
                self.refused(command + " x", command + " 0", command + " -")

    def test_too_few_words(self):
        # The first words of a command that are a command themselves are left out.
        self.refused("", " ", "board", "board z", "board z 2 ; a", "standing", "standing z", "drop", "lift", "claim",
                     "claim order",
                     "claim order q", "claim inside", "claim inside q", "claim outside q", "claim goes q s",
                     "claim never q", "claim within q",
                     "claim one", "claim one reach", "claim reach q", "order", "inside", "inside q", "inside q 0 1 3",
                     "goes q s", "within q",
                     "alike q", "turn", "turn q", "press q", "press q s", "least q", "count q", "sorts q", "reaches",
                     "blocks q", "show")

    def test_other_words(self):
        self.refused("Order q", "orders q", "put z ab", "claim outsides q 0", "claim one q", "claim alike q w",
                     "claim led q 0 1", "name", "claims q",
                     "undo 1", "names q", "claim", "trial", "help", "claim  order q 8", "claim one  reach q",
                     "claim never", "one reach q")

    def test_names(self):
        for wrong in ("Q", "q1", "abcdefghi", "-", "q-", "1", ";", "q\n", "q2", "q-1"):
            self.refused(f"claim inside {wrong} 0 1 2 3", f"claim outside {wrong} 1 0 2 3", f"claim within {wrong} w",
                         f"claim within q {wrong}",
                         f"claim never {wrong} s t", f"claim never q {wrong} t", f"claim never q s {wrong}",
                         f"sorts {wrong} 2", f"count {wrong} s",
                         f"count q {wrong}", f"reaches {wrong}", f"inside {wrong} 0", f"goes {wrong} s t",
                         f"goes q {wrong} t", f"goes q s {wrong}")
            self.refused(f"board {wrong} 2", f"standing {wrong} ab", f"drop {wrong}", f"show {wrong}",
                         f"order {wrong}", f"claim order {wrong} 8",
                         f"claim goes {wrong} s t", f"claim goes q {wrong} t", f"claim goes q s {wrong}",
                         f"within q {wrong}", f"alike {wrong} q",
                         f"turn {wrong} r", f"press q {wrong} r", f"least q {wrong}", f"claim one reach {wrong}",
                         f"blocks {wrong} 0")

    def test_numbers(self):
        for wrong in ("-1", "+1", "01", "00", "1.0", "x", "1000000000000000000000000000001", "10" + "0" * 30, "9" * 40,
                      "1_0", "0x1", "-0", "-"):
            self.refused(f"lift {wrong}", f"claim order q {wrong}", f"sorts q {wrong}", f"blocks q {wrong}")

    def test_turns(self):
        for wrong in ("00 1", "0 0", "1", "0 2", "1 2", "0,1", "0 -1", "0 1 01", "(0, 1)", "0 1 x", spaced(range(25)),
                      "0 1 ;", "-", "01 0"):
            self.refused(f"inside q {wrong}", f"claim inside q {wrong}", f"claim outside q {wrong}")

    def test_boards_and_standings(self):
        for wrong in ("0", "25", "02", "2 ;", "2 ; a 1", "2 ; a 0 0", "2 ; tie 1 0", "2 ; tie 0 1 ; a 1 0",
                      "2 ; b 1 0 ; a 1 0", "x", "2;", "2 ; a 1 0 ;",
                      "2 ; A 1 0", "2  ; a 1 0", "3 ; a 1 0"):
            self.refused(f"board z {wrong}")
        for wrong in ("A", "a1", "a b", "a" * 25, "_", "a\n", "ab;"):
            self.refused(f"standing z {wrong}")

    def test_rows(self):
        wrong_ones = ("r1", "r0", "r-0", "r01", "r+1", "r--1", "R", "1", "r 1", "r -", "- r", "--", "abcdefghi", "r;f",
                      "r,f", "r1000000000000000000000000000001",
                      "r-1000000000000000000000000000001", "r-", "a1b", spaced(["r"] * 2001), "r\n")
        for wrong in wrong_ones:
            self.refused(f"turn q {wrong}", f"press q s {wrong}", f"turn nothing {wrong}")


if __name__ == "__main__":
    unittest.main()
