"""Tests of seatbuttons.presses against going on press by press."""

import itertools
import unittest

from seatbuttons.boards import Board
from seatbuttons.errors import InvalidNumber, InvalidPlace, InvalidRow, InvalidStanding, InvalidText, NotABoard
from seatbuttons.presses import back_after_row, first_unlike, length, on, pressed, row_back, row_of, same, shortened
from seatbuttons.presses import text_of, times, way

from tests.support import NO_INTEGERS, NO_PLACES, NO_VALUES, Telling, all_turns, led_back, nested, no_boards, one_then
from tests.support import staying, times_over, wrong_standings

GREAT = 10 ** 30
SQUARE = Board(4, (("f", (1, 0, 3, 2)), ("r", (1, 2, 3, 0))), ())
SIX = Board(6, (("a", (1, 2, 0, 3, 4, 5)), ("b", (0, 1, 3, 2, 5, 4)), ("c", (1, 2, 3, 4, 5, 0)), ("no", staying(6))), ())

# None of these is a press of the square.
NO_PRESSES = NO_VALUES + [0, (), ("r",), ("r", 1, 1), ["r", 1], (1, "r"), "r1", ("r", 0), ("", 1), ("x", 1), ("tie", 1)]
NO_PRESSES += [("R", 1), ("rr", 1), ("r", GREAT + 1), ("r", -GREAT - 1), (("r",), 1), ("r", (1,)), (("r", 1),), nested(20)]
NO_PRESSES += [("r", value) for value in NO_INTEGERS] + [(value, 1) for value in NO_VALUES + [0, 1]]

ROWS = [(), (("r", 1),), (("r", -1),), (("f", 2),), (("r", 1), ("f", 1)), (("f", -3), ("r", 5), ("r", -2), ("f", 1))]
ROWS += [(("r", 1), ("r", 1)), (("r", 4),), (("f", 1), ("f", -1)), (("r", 2), ("f", 2), ("r", 2)), (("r", GREAT),)]


def power_of(turn, number):
    """The power of a turn with a number of few places, going on turn by turn."""
    again = 1
    while times_over(turn, again) != staying(len(turn)):
        again += 1
    return times_over(turn, number % again)


def made_by(board, row):
    """The turn of a row, press by press."""
    made = staying(board.size)
    for name, number in row:
        made = one_then(made, power_of(board.turn(name), number))
    return made


def rows_of(board, numbers, most):
    """All rows of up to so many presses with these numbers."""
    presses = list(itertools.product(board.names, numbers))
    return [row for many in range(most + 1) for row in itertools.product(presses, repeat=many)]


class Texts(Telling):
    TEXTS = ["-", "r", "f", "r-1", "r2", "r f", "f r f r", "r10 f-10", f"r{GREAT} f-{GREAT}", f"f{GREAT - 1}", "r r", "r-1 r-1"]

    def test_read_and_written(self):
        rows = [(), (("r", 1),), (("f", 1),), (("r", -1),), (("r", 2),), (("r", 1), ("f", 1))]
        rows += [(("f", 1), ("r", 1), ("f", 1), ("r", 1)), (("r", 10), ("f", -10)), (("r", GREAT), ("f", -GREAT))]
        rows += [(("f", GREAT - 1),), (("r", 1), ("r", 1)), (("r", -1), ("r", -1))]
        for text, row in zip(self.TEXTS, rows, strict=True):
            self.gives(row, row_of, SQUARE, text)
            self.gives(text, text_of, SQUARE, row)

    def test_written_and_read(self):
        for row in rows_of(SQUARE, (1, -1, 12, -GREAT), 3):
            self.assertEqual(row_of(SQUARE, text_of(SQUARE, row)), row)

    def test_names_of_several_letters(self):
        board = Board(2, (("aaaaaaaa", (1, 0)), ("a", (1, 0)), ("tied", (1, 0))), ())
        row = (("aaaaaaaa", 1), ("a", -2), ("tied", 3))
        self.gives("aaaaaaaa a-2 tied3", text_of, board, row)
        self.gives(row, row_of, board, "aaaaaaaa a-2 tied3")
        for text in ("aa", "tie", "tied tie", "aaaaaaaaa", "tie0", "tie1"):
            self.tells(InvalidText(text), row_of, board, text)

    def test_2000_presses(self):
        for press, word in ((("r", 1), "r"), (("f", -GREAT), f"f-{GREAT}")):
            row, text = (press,) * 2000, " ".join([word] * 2000)
            self.gives(text, text_of, SQUARE, row)
            self.gives(row, row_of, SQUARE, text)
            text = text + " " + word
            self.tells(InvalidText(text), row_of, SQUARE, text)

    def test_no_texts(self):
        for value in NO_VALUES + [0, 1, (), ("r",), ["r"], b"r", (("r", 1),), SQUARE]:
            self.tells(InvalidText(value), row_of, SQUARE, value)

    def test_texts_of_none(self):
        texts = ["", " ", "--", "- ", " -", "- r", "r -", "r ", " r", "r  f", "r\n", "r\nf", "r1", "r01", "r-01", "r00", "r0"]
        texts += ["r-0", "r+1", "r+2", "r--1", "r-", "r 1", "r 2", "2r", "2", "-1", "-r", "x", "R", "rf", "r2f", "r,f", "r;f"]
        texts += ["r1.0", "r2 f2 x", "r 0", "r2-", "r1_0", "r 2 f", "r\t2", "r-1-1", "tie", "tie1", "r2 r02", "r2 -", "~"]
        texts += [f"r{GREAT + 1}", f"r-{GREAT + 1}", f"r{GREAT}0", f"r-{GREAT}0", "r" + "1" * 5000, "r-" + "1" * 5000, "r" * 8000]
        for text in texts:
            self.tells(InvalidText(text), row_of, SQUARE, text)

    def test_texts_near_a_text(self):
        text = "r f-1 r20 f-105"
        near = {text[:at] + text[at + 1:] for at in range(len(text))}
        near |= {text[:at] + text[at] + text[at:] for at in range(len(text))}
        near |= {text[:at] + sign + text[at:] for at in range(len(text) + 1) for sign in "01 rf-+x\n"}
        near |= {text[:at] + sign + text[at + 1:] for at in range(len(text)) for sign in "01 rf-+x\n"}
        near |= {text[:at] for at in range(len(text))} | {text[at:] for at in range(len(text))}
        near |= {" ".join(order) for order in itertools.permutations(text.split())}
        read, rows = 0, {}
        for other in sorted(near):
            try:
                row = row_of(SQUARE, other)
            except InvalidText as error:
                self.assertIs(error.given, other)
                continue
            read += 1
            self.assertEqual(text_of(SQUARE, row), other)
            rows[row] = other
        self.assertGreater(read, 50)
        self.assertEqual(len(rows), read)

    def test_a_board_without_buttons(self):
        board = Board(2, (), ())
        self.gives((), row_of, board, "-")
        self.gives("-", text_of, board, ())
        self.tells(InvalidText("a"), row_of, board, "a")


class Turns(Telling):
    def test_press_by_press(self):
        for row in rows_of(SQUARE, (1, -1, 2, 3, -6), 3):
            self.assertEqual(pressed(SQUARE, row), made_by(SQUARE, row), row)
        for row in rows_of(SIX, (1, -2), 3):
            self.assertEqual(pressed(SIX, row), made_by(SIX, row), row)

    def test_great_numbers(self):
        for number in (GREAT, -GREAT, GREAT - 1, 1 - GREAT, 10 ** 20 + 7):
            for name in SIX.names:
                self.gives(power_of(SIX.turn(name), number), pressed, SIX, ((name, number),))

    def test_the_empty_row(self):
        self.gives((0, 1, 2, 3), pressed, SQUARE, ())
        self.gives((0,), pressed, Board(1, (), ()), ())
        self.gives(0, length, SQUARE, ())
        self.gives((), row_back, SQUARE, ())
        self.gives(1, back_after_row, SQUARE, ())
        self.gives((0, 1, 2, 3), times, SQUARE, (), -5)
        self.gives((2,), way, SQUARE, (), 2)
        self.gives("a-b-", on, SQUARE, (), "a-b-")
        self.gives((), shortened, SQUARE, ())

    def test_long_rows(self):
        row = (("r", 1), ("f", -1)) * 1000
        self.gives(staying(4), pressed, SQUARE, row)
        self.gives(2000, length, SQUARE, row)
        self.gives(made_by(SQUARE, row[:-1]), pressed, SQUARE, row[:-1])
        self.assertEqual(len(way(SQUARE, row, 0)), 2001)
        self.assertEqual(row_back(SQUARE, row), (("f", 1), ("r", -1)) * 1000)
        self.gives(row[:0], shortened, SQUARE, (("r", 2),) * 2000)

    def test_length(self):
        self.gives(7, length, SQUARE, (("f", 1), ("r", -1), ("f", 5)))
        self.gives(4000 * GREAT // 2, length, SQUARE, (("f", -GREAT), ("r", GREAT)) * 1000)
        self.gives(4, length, SQUARE, (("r", 2), ("r", -2)))

    def test_row_back(self):
        for row in rows_of(SQUARE, (1, -2, GREAT), 3):
            back = row_back(SQUARE, row)
            self.assertEqual(back, tuple((name, -number) for name, number in reversed(row)))
            self.assertEqual(pressed(SQUARE, back), led_back(pressed(SQUARE, row)))
            self.gives(row, row_back, SQUARE, back)

    def test_times(self):
        for row in ROWS:
            turn = made_by(SQUARE, row)
            for number in (0, 1, -1, 2, 3, -3, 7, GREAT, -GREAT, GREAT - 1):
                self.gives(power_of(turn, number), times, SQUARE, row, number)

    def test_back_after_row(self):
        for row in rows_of(SIX, (1, -2), 3):
            turn = made_by(SIX, row)
            number = back_after_row(SIX, row)
            self.assertEqual(times_over(turn, number), staying(6))
            for less in range(1, number):
                self.assertNotEqual(times_over(turn, less), staying(6))
        self.gives(1, back_after_row, SQUARE, (("r", 4),))
        self.gives(6, back_after_row, SIX, (("c", 1),))

    def test_same_and_first_unlike(self):
        for one, other in itertools.product(rows_of(SQUARE, (1, -1, 4), 2), repeat=2):
            turn, second = made_by(SQUARE, one), made_by(SQUARE, other)
            unlike = [place for place in range(4) if turn[place] != second[place]]
            self.assertIs(same(SQUARE, one, other), turn == second)
            self.assertEqual(first_unlike(SQUARE, one, other), unlike[0] if unlike else None)
        self.gives(True, same, SQUARE, (("r", 4),), ())
        self.gives(None, first_unlike, SQUARE, (("r", 4),), ())
        self.gives(False, same, SIX, (("b", 1),), ())
        self.gives(2, first_unlike, SIX, (("b", 1),), ())

    def test_on(self):
        for row, standing in itertools.product(rows_of(SQUARE, (1, -1), 3), ("abcd", "a-b-", "----", "zzzz", "xx-y")):
            turn = made_by(SQUARE, row)
            expected = [""] * 4
            for place in range(4):
                expected[turn[place]] = standing[place]
            self.assertEqual(on(SQUARE, row, standing), "".join(expected))
        self.gives("dabc", on, SQUARE, (("r", 1),), "abcd")
        self.gives("-", on, Board(1, (), ()), (), "-")

    def test_way(self):
        for row, place in itertools.product(rows_of(SQUARE, (1, -1, 2), 3), range(4)):
            places = [made_by(SQUARE, row[:many])[place] for many in range(len(row) + 1)]
            self.assertEqual(way(SQUARE, row, place), tuple(places))
        self.gives((0, 1, 0, 3), way, SQUARE, (("r", 1), ("f", 1), ("r", -1)), 0)


class Shortened(Telling):
    def by_hand(self, board, row):
        """Again and again one change as the document words it, the first that can be made."""
        row = list(row)
        again = {}
        for name in board.names:
            again[name] = 1
            while times_over(board.turn(name), again[name]) != staying(board.size):
                again[name] += 1
        while True:
            shorter = self.changed(row, again)
            if shorter == row:
                return tuple(row)
            row = shorter

    def changed(self, row, again):
        for at, (name, number) in enumerate(row):
            if at > 0 and row[at - 1][0] == name:
                return row[:at - 1] + [(name, row[at - 1][1] + number)] + row[at + 1:]
            if number == 0:
                return row[:at] + row[at + 1:]
            near = [number % again[name] - again[name], number % again[name]]
            near = min(near, key=lambda other: (abs(other), -other))
            if near != number:
                return row[:at] + [(name, near)] + row[at + 1:]
        return row

    def test_by_hand(self):
        for row in rows_of(SQUARE, (1, -1, 2, -2, 3), 4):
            self.assertEqual(shortened(SQUARE, row), self.by_hand(SQUARE, row), row)
        for row in rows_of(SIX, (1, -3, 4), 3):
            self.assertEqual(shortened(SIX, row), self.by_hand(SIX, row), row)

    def test_the_turn_remains(self):
        for row in rows_of(SIX, (2, -7), 3):
            self.assertEqual(pressed(SIX, shortened(SIX, row)), pressed(SIX, row))

    def test_of_two_the_one_above_0(self):
        self.gives((("r", 2),), shortened, SQUARE, (("r", 2),))
        self.gives((("r", 2),), shortened, SQUARE, (("r", -2),))
        self.gives((("r", -1),), shortened, SQUARE, (("r", 3),))
        self.gives((("f", 1),), shortened, SQUARE, (("f", -1),))
        self.gives((("c", 3),), shortened, SIX, (("c", -3),))
        self.gives((("c", -2),), shortened, SIX, (("c", 4),))
        self.gives((("a", 1),), shortened, SIX, (("a", GREAT),))

    def test_what_falls_away(self):
        self.gives((), shortened, SIX, (("no", 5),))
        self.gives((), shortened, SQUARE, (("r", 1), ("f", 2), ("r", -1)))
        self.gives((), shortened, SQUARE, (("r", 1), ("f", 1), ("r", 4), ("f", 1), ("r", 3)))
        self.gives((("r", 1), ("f", 1)), shortened, SQUARE, (("r", 1), ("f", 1), ("r", 4)))
        self.gives((), shortened, SIX, (("a", 1), ("no", 1), ("a", 1), ("no", 1), ("a", 1)))
        self.gives((("c", -2), ("a", 1)), shortened, SIX, (("c", 2), ("c", 2), ("a", GREAT)))
        self.gives((("r", 1), ("f", 1)) * 1000, shortened, SQUARE, (("r", 1), ("f", -1)) * 1000)


# Each call with right arguments; the rows among them stand at these indexes.
CALLS = [
    (row_of, (SQUARE, "r"), ()), (text_of, (SQUARE, ROWS[1]), (1,)), (pressed, (SQUARE, ROWS[1]), (1,)),
    (length, (SQUARE, ROWS[1]), (1,)), (row_back, (SQUARE, ROWS[1]), (1,)), (times, (SQUARE, ROWS[1], 2), (1,)),
    (back_after_row, (SQUARE, ROWS[1]), (1,)), (same, (SQUARE, ROWS[1], ROWS[2]), (1, 2)),
    (first_unlike, (SQUARE, ROWS[1], ROWS[2]), (1, 2)), (on, (SQUARE, ROWS[1], "aabb"), (1,)),
    (way, (SQUARE, ROWS[1], 0), (1,)), (shortened, (SQUARE, ROWS[1]), (1,)),
]


class Wrong(Telling):
    def with_one(self, arguments, index, value):
        return (*arguments[:index], value, *arguments[index + 1:])

    def test_names(self):
        names = ["board row", "board row", "board row", "board row", "board row number", "board row"]
        names = ["board text"] + names + ["board one other", "board one other", "board row standing", "board row place", "board row"]
        for (call, _, _), told in zip(CALLS, names, strict=True):
            self.takes(call, *told.split())

    def test_no_boards(self):
        for call, good, _ in CALLS:
            for wrong in no_boards():
                self.tells(NotABoard(wrong), call, *self.with_one(good, 0, wrong))

    def test_no_tuples(self):
        for call, good, indexes in CALLS:
            for index, wrong in itertools.product(indexes, NO_VALUES + [0, "r", [("r", 1)], {"r": 1}]):
                self.tells(InvalidRow(None), call, *self.with_one(good, index, wrong))

    def test_no_presses(self):
        for call, good, indexes in CALLS:
            for index, wrong in itertools.product(indexes, NO_PRESSES):
                self.tells(InvalidRow(0), call, *self.with_one(good, index, (wrong,)))
                self.tells(InvalidRow(2), call, *self.with_one(good, index, (("r", 1), ("f", GREAT), wrong, wrong)))

    def test_2001_presses(self):
        many = (("r", 1),) * 2000
        for call, good, indexes in CALLS:
            for index in indexes:
                call(*self.with_one(good, index, many))
                self.tells(InvalidRow(2000), call, *self.with_one(good, index, many + (("f", 1),)))
                self.tells(InvalidRow(2000), call, *self.with_one(good, index, many + (None, None)))
                self.tells(InvalidRow(1999), call, *self.with_one(good, index, many[1:] + (None, None)))
                self.tells(InvalidRow(0), call, *self.with_one(good, index, (("x", 1), *many)))

    def test_wrong_numbers(self):
        for wrong in NO_INTEGERS + [GREAT + 1, -GREAT - 1]:
            self.tells(InvalidNumber(wrong), times, SQUARE, ROWS[1], wrong)

    def test_wrong_standings(self):
        for standing in wrong_standings(4):
            self.tells(InvalidStanding(standing), on, SQUARE, ROWS[1], standing)

    def test_wrong_places(self):
        for place in NO_PLACES + [4, 5]:
            self.tells(InvalidPlace(place), way, SQUARE, ROWS[1], place)

    def test_order_of_errors(self):
        board, row = (0, "4", NotABoard("4")), (1, (("r", 0),), InvalidRow(0))
        no_number = GREAT + 1
        self.tells_in_order(row_of, (SQUARE, "r"), board, (1, "r1", InvalidText("r1")))
        for call in (text_of, pressed, length, row_back, back_after_row, shortened):
            self.tells_in_order(call, (SQUARE, ()), board, row)
        self.tells_in_order(times, (SQUARE, (), 1), board, row, (2, no_number, InvalidNumber(no_number)))
        for call in (same, first_unlike):
            self.tells_in_order(call, (SQUARE, (), ()), board, row, (2, [], InvalidRow(None)))
            self.tells_in_order(call, (SQUARE, (), ()), board, (1, None, InvalidRow(None)), (2, (("r", 1), 1), InvalidRow(1)))
        self.tells_in_order(on, (SQUARE, (), "aabb"), board, row, (2, "aab", InvalidStanding("aab")))
        self.tells_in_order(way, (SQUARE, (), 0), board, row, (2, 4, InvalidPlace(4)))

    def test_the_board_is_not_changed(self):
        before = (dict(vars(SQUARE)), SQUARE.text)
        for call, good, _ in CALLS:
            call(*good)
        self.assertEqual((dict(vars(SQUARE)), SQUARE.text), before)

    def test_all_turns_of_a_button(self):
        for turn in all_turns(3):
            board = Board(3, (("a", turn),), ())
            self.gives(turn, pressed, board, (("a", 1),))
            self.gives(led_back(turn), pressed, board, (("a", -1),))


if __name__ == "__main__":
    unittest.main()
