"""Tests of seatbuttons.chains against going through all turns of a board, and on known groups."""

import itertools
import math
import unittest

from seatbuttons.boards import Board
from seatbuttons.chains import agreeing, base, first_outside, holding, inside, is_normal, keeping, member_at, nearest
from seatbuttons.chains import number_of, order, same_group, spans, within
from seatbuttons.errors import InvalidNumber, InvalidPlaces, InvalidTurn, NotABoard, NotInside, OtherSize, TooMany
from seatbuttons.turns import turn_of

from tests.groups import apart, board_of, evens, little_cube, mathieu, pairs_kept, ring, ring_turned_over, six_places
from tests.groups import small_boards, turns_of, whole
from tests.support import NO_INTEGERS, NO_PLACES, NO_VALUES, Telling, all_turns, led_back, nested, no_boards, one_then
from tests.support import staying, wrong_turns


def base_of(size, turns):
    """The base, as the document words it, of the group of these turns."""
    found, left = [], turns
    for place in range(size):
        if any(turn[place] != place for turn in left):
            found.append(place)
            left = [turn for turn in left if turn[place] == place]
    return tuple(found)


def spans_of(places, turns):
    """The spans of this base."""
    found, left = [], turns
    for place in places:
        found.append(tuple(sorted({turn[place] for turn in left})))
        left = [turn for turn in left if turn[place] == place]
    return tuple(found)


def agreeing_with(places, turn, turns):
    """The greatest number of places of this base on which one of the turns is as this turn is."""
    most = 0
    for other in turns:
        unlike = [at for at, place in enumerate(places) if other[place] != turn[place]]
        most = max(most, unlike[0] if unlike else len(places))
    return most


class AllTurns(Telling):
    """Boards of a few places against going through all turns of the group."""

    def test_order_base_and_spans(self):
        for board in small_boards() + six_places():
            turns = turns_of(board)
            places = base_of(board.size, turns)
            self.gives(len(turns), order, board)
            self.gives(places, base, board)
            self.gives(spans_of(places, turns), spans, board)

    def test_inside(self):
        for board in small_boards()[::2]:
            turns = set(turns_of(board))
            for turn in all_turns(board.size):
                self.assertIs(inside(board, turn), turn in turns)
        for board in six_places():
            turns = set(turns_of(board))
            for turn in all_turns(6)[::11] + sorted(turns)[::5]:
                self.gives(turn in turns, inside, board, turn)

    def test_agreeing_and_nearest(self):
        for board in small_boards()[::3] + six_places():
            turns = turns_of(board)
            places = base_of(board.size, turns)
            for turn in all_turns(board.size)[::1 if board.size < 5 else 17]:
                most = agreeing_with(places, turn, turns)
                self.gives(most, agreeing, board, turn)
                near = nearest(board, turn)
                self.assertIn(near, turns)
                self.assertEqual([near[place] for place in places[:most]], [turn[place] for place in places[:most]])
                self.assertEqual(nearest(turn=turn, board=board), near)

    def test_agreeing_on_the_whole_base_and_yet_not_inside(self):
        board = board_of((1, 0, 3, 2))
        self.gives((0,), base, board)
        self.gives(1, agreeing, board, (1, 0, 2, 3))
        self.gives(False, inside, board, (1, 0, 2, 3))
        self.gives((1, 0, 3, 2), nearest, board, (1, 0, 2, 3))
        self.gives((0, 1, 2, 3), nearest, board, (0, 1, 3, 2))
        self.gives(0, agreeing, board, (2, 1, 0, 3))

    def test_places_out_of_the_base_do_not_count(self):
        board = board_of((0, 2, 1, 3, 5, 4), (0, 1, 2, 3, 5, 4))
        self.gives((1, 4), base, board)
        self.gives(2, agreeing, board, (3, 2, 1, 0, 5, 4))
        self.gives(1, agreeing, board, (3, 2, 1, 4, 0, 5))
        self.gives(0, agreeing, board, (0, 3, 2, 1, 4, 5))

    def test_numbers(self):
        for board in small_boards()[::2] + six_places():
            turns = turns_of(board)
            some = range(0, len(turns), 1 if board.size < 5 else 13)
            for number in some:
                self.gives(turns[number], member_at, board, number)
                self.gives(number, number_of, board, turns[number])
            self.gives(turns[-1], member_at, board, len(turns) - 1)
            for number in (-1, len(turns), len(turns) + 1, 10 ** 30):
                self.tells(InvalidNumber(number), member_at, board, number)

    def test_not_inside(self):
        for board in six_places() + small_boards()[::5]:
            turns = turns_of(board)
            places = base_of(board.size, turns)
            for turn in all_turns(board.size)[::1 if board.size < 5 else 29]:
                if turn not in turns:
                    told = NotInside(agreeing_with(places, turn, turns))
                    self.tells(told, number_of, board, turn)

    def test_keeping(self):
        for board in small_boards()[::5] + six_places():
            turns = turns_of(board)
            for many in range(min(board.size, 4) + 1):
                for places in itertools.islice(itertools.permutations(range(board.size), many), 0, None, 3):
                    kept = sum(all(turn[place] == place for place in places) for turn in turns)
                    self.gives(kept, keeping, board, places)
            self.gives(1, keeping, board, staying(board.size)[::-1])

    def test_holding(self):
        for board in small_boards()[::5] + six_places():
            turns = turns_of(board)
            for many in range(board.size + 1):
                for places in itertools.combinations(range(board.size), many):
                    held = sum({turn[place] for place in places} == set(places) for turn in turns)
                    self.gives(held, holding, board, places[::-1])
                    self.assertEqual(holding(board, places), held)

    def test_two_boards(self):
        boards = small_boards()[-25:] + six_places() + [whole(4), evens(4), ring(4), board_of((1, 0, 3, 2), (2, 3, 0, 1))]
        turns = {at: set(turns_of(board)) for at, board in enumerate(boards)}
        for (at, one), (to, other) in itertools.product(enumerate(boards), repeat=2):
            if one.size != other.size:
                continue
            outside = [name for name, turn in one.buttons if turn not in turns[to]]
            self.gives(turns[at] <= turns[to], within, one, other)
            self.gives(turns[at] == turns[to], same_group, one, other)
            self.gives(outside[0] if outside else None, first_outside, one, other)
            normal = all(one_then(one_then(led_back(by), turn), by) in turns[at]
                         for _, by in other.buttons for turn in turns[at])
            self.gives(normal, is_normal, one, other)


class NormalGroups(Telling):
    def test_normal_ones(self):
        four = board_of((1, 0, 3, 2), (2, 3, 0, 1))
        for one, other in ((four, whole(4)), (four, evens(4)), (evens(4), whole(4)), (ring(4), ring_turned_over(4))):
            self.gives(True, is_normal, one, other)
        self.gives(False, is_normal, ring(4), whole(4))
        self.gives(False, is_normal, board_of((1, 0, 3, 2)), evens(4))

    def test_the_one_need_not_be_within_the_other(self):
        self.gives(True, is_normal, whole(4), ring(4))
        self.gives(True, is_normal, whole(4), Board(4, (), ()))
        self.gives(True, is_normal, Board(4, (), ()), whole(4))
        self.gives(True, is_normal, board_of((0, 1, 3, 2)), board_of((1, 0, 2, 3)))
        self.gives(False, is_normal, board_of((0, 1, 3, 2)), board_of((0, 2, 1, 3)))

    def test_the_same_group_by_other_names(self):
        swaps = [turn_of(5, ((at, at + 1),)) for at in range(4)]
        self.gives(True, same_group, whole(5), board_of(*swaps, names="zyxw"))
        self.gives(False, same_group, evens(5), board_of(*swaps))
        self.gives(True, within, evens(5), board_of(*swaps))
        self.gives("w", first_outside, board_of(*swaps, names="zyxw"), evens(5))
        self.gives("b", first_outside, board_of((0, 1, 2, 3, 4), swaps[0], swaps[1]), ring(5))
        self.gives(True, same_group, board_of((0, 1, 2)), Board(3, (), ()))


class KnownGroups(Telling):
    """Groups of up to 24 places."""

    def check_order(self, told, board):
        self.gives(told, order, board)
        self.assertEqual(math.prod(len(span) for span in spans(board)), told)
        self.assertEqual(len(base(board)), len(spans(board)))
        last = member_at(board, told - 1)
        self.gives(told - 1, number_of, board, last)
        self.gives(True, inside, board, last)
        self.tells(InvalidNumber(told), member_at, board, told)
        middle = member_at(board, told // 2)
        self.gives(told // 2, number_of, board, middle)
        self.gives(middle, nearest, board, middle)
        self.gives(len(base(board)), agreeing, board, middle)

    def test_orders(self):
        for size in (2, 3, 7, 12, 23, 24):
            self.check_order(math.factorial(size), whole(size))
            self.check_order(size, ring(size))
        for size in (4, 5, 11, 23, 24):
            self.check_order(math.factorial(size) // 2, evens(size))
            self.check_order(2 * size, ring_turned_over(size))
        for pairs in (2, 3, 12):
            self.check_order(2 ** pairs * math.factorial(pairs), pairs_kept(pairs))
        for sizes in ((2, 2), (3, 4, 5), (6, 6, 6, 6), (2, 3, 7, 12), (23,)):
            self.check_order(math.prod(map(math.factorial, sizes)), apart(*sizes))
        self.check_order(88179840, little_cube())
        self.check_order(244823040, mathieu())

    def test_all_turns_of_24_places(self):
        board = whole(24)
        self.gives(staying(23), base, board)
        self.gives(tuple(tuple(range(at, 24)) for at in range(23)), spans, board)
        self.gives(staying(24)[::-1], member_at, board, math.factorial(24) - 1)
        self.gives(staying(24), member_at, board, 0)
        self.gives(staying(22) + (23, 22), member_at, board, 1)
        self.gives((1, 0) + staying(24)[2:], member_at, board, math.factorial(23))
        self.gives(math.factorial(23), number_of, board, (1, 0) + staying(24)[2:])
        self.gives(23, agreeing, board, (5, 3) + (0, 1, 2, 4) + staying(24)[6:])

    def test_even_turns_of_24_places(self):
        odd, even = turn_of(24, ((22, 23),)), turn_of(24, ((20, 21), (22, 23)))
        self.gives(False, inside, evens(24), odd)
        self.gives(True, inside, evens(24), even)
        self.gives(22, agreeing, evens(24), odd)
        self.tells(NotInside(22), number_of, evens(24), odd)
        self.gives(False, inside, evens(24), turn_of(24, (tuple(range(24)),)))
        self.gives(staying(22), base, evens(24))
        self.gives(staying(24), nearest, evens(24), odd)
        self.gives(True, within, evens(24), whole(24))
        self.gives("a", first_outside, whole(24), evens(24))
        self.gives(True, is_normal, evens(24), whole(24))

    def test_rings_of_24_places(self):
        self.gives((0,), base, ring(24))
        self.gives((staying(24),), spans, ring(24))
        self.gives((0, 1), base, ring_turned_over(24))
        self.gives((staying(24), (1, 23)), spans, ring_turned_over(24))
        self.gives(True, is_normal, ring(24), ring_turned_over(24))
        for number in (0, 1, 23):
            self.gives(tuple((place + number) % 24 for place in range(24)), member_at, ring(24), number)

    def test_pairs_and_lots(self):
        board = pairs_kept(12)
        self.gives(tuple(range(0, 24, 2)), base, board)
        self.gives(True, inside, board, turn_of(24, ((0, 23), (1, 22))))
        self.gives(False, inside, board, turn_of(24, ((0, 2),)))
        self.gives(2 ** 11 * math.factorial(11), keeping, board, (0,))
        self.gives(2 ** 10 * math.factorial(11) * 2, keeping, board, (1, 0))
        self.gives(2 ** 12 * math.factorial(11), holding, board, (1, 0))
        self.gives(2 ** 10 * math.factorial(10) * 2, holding, board, (0, 2))
        lots = apart(6, 6, 6, 6)
        self.gives(False, inside, lots, turn_of(24, ((0, 6),)))
        self.gives(math.factorial(6) ** 3 * math.factorial(5), keeping, lots, (23,))
        self.gives(math.factorial(6) ** 3 * 2 * math.factorial(4), holding, lots, (23, 18))

    def test_mathieu(self):
        board = mathieu()
        self.gives(244823040 // 24 // 23 // 22 // 21 // 20, keeping, board, (5, 4, 3, 2, 1))
        self.gives(1, keeping, board, (0, 1, 2, 3, 4, 5, 6, 7))
        # Eights: each five places are in just one of 759; they are led onto one another.
        eights = [places for places in itertools.combinations(range(24), 8)
                  if places[:5] == (0, 1, 2, 3, 4)]
        held = [holding(board, places) for places in eights if self.is_led_onto_few(board, places)]
        self.assertEqual(held, [244823040 // 759])

    def is_led_onto_few(self, board, places):
        lots, waiting = {tuple(places)}, [tuple(places)]
        while waiting and len(lots) <= 759:
            lot = waiting.pop()
            for _, turn in board.buttons:
                led = tuple(sorted(turn[place] for place in lot))
                if led not in lots:
                    lots.add(led)
                    waiting.append(led)
        return len(lots) <= 759

    def test_one_place(self):
        for board in (Board(1, (), ()), board_of((0,))):
            self.gives(1, order, board)
            self.gives((), base, board)
            self.gives((), spans, board)
            self.gives(True, inside, board, (0,))
            self.gives(0, agreeing, board, (0,))
            self.gives((0,), nearest, board, (0,))
            self.gives((0,), member_at, board, 0)
            self.gives(0, number_of, board, (0,))
            self.gives(1, keeping, board, (0,))
            self.gives(1, holding, board, (0,))
            self.gives(True, same_group, board, board)
            self.gives(True, is_normal, board, board)


class Lots(Telling):
    def test_the_empty_lot(self):
        for board in (whole(24), ring(5), Board(3, (), ())):
            self.gives(order(board), keeping, board, ())
            self.gives(order(board), holding, board, ())

    def test_just_20000_lots(self):
        # Two of five places, three times, and three of six: 10 * 10 * 10 * 20 lots.
        board = apart(5, 5, 5, 6)
        places = (0, 1, 5, 6, 10, 11, 15, 16, 17)
        self.gives((2 * 6) ** 3 * 6 * 6, holding, board, places)

    def test_more_than_20000_lots(self):
        self.tells(TooMany(20000), holding, whole(24), tuple(range(12)))
        self.tells(TooMany(20000), holding, whole(24), tuple(range(6)))
        # Six of 15 places, and one of four: 5005 * 4 lots.
        self.tells(TooMany(20000), holding, apart(15, 4), (0, 1, 2, 3, 4, 5, 15))

    def test_many_places_in_few_lots(self):
        self.gives(math.factorial(20) * math.factorial(4), holding, whole(24), tuple(range(23, 3, -1)))
        self.gives(math.factorial(24), holding, whole(24), tuple(range(24)))


ON_BOARDS = (order, base, spans)
WITH_TURN = (inside, agreeing, nearest, number_of)
WITH_PLACES = (keeping, holding)
WITH_TWO = (within, same_group, first_outside, is_normal)
SQUARE = ring_turned_over(4)


class Wrong(Telling):
    def test_names(self):
        for calls, names in ((ON_BOARDS, "board"), (WITH_TURN, "board turn"), (WITH_PLACES, "board places"),
                             (WITH_TWO, "one other"), ((member_at,), "board number")):
            for call in calls:
                self.takes(call, *names.split())

    def test_no_boards(self):
        for wrong in no_boards():
            for call in ON_BOARDS:
                self.tells(NotABoard(wrong), call, wrong)
            for call in WITH_TURN:
                self.tells(NotABoard(wrong), call, wrong, (1, 2, 3, 0))
            for call in WITH_PLACES:
                self.tells(NotABoard(wrong), call, wrong, ())
            for call in WITH_TWO:
                self.tells(NotABoard(wrong), call, wrong, SQUARE)
                self.tells(NotABoard(wrong), call, SQUARE, wrong)
            self.tells(NotABoard(wrong), member_at, wrong, 0)

    def test_wrong_turns(self):
        for call in WITH_TURN:
            for wrong in wrong_turns():
                self.tells(InvalidTurn(wrong), call, SQUARE, wrong)
            for turn in ((0,), (1, 0, 2), (0, 1, 2, 3, 4), staying(24)):
                self.tells(OtherSize(), call, SQUARE, turn)

    def test_wrong_numbers(self):
        for wrong in NO_INTEGERS + [-1, 8, 9, 10 ** 30, -10 ** 30]:
            self.tells(InvalidNumber(wrong), member_at, SQUARE, wrong)

    def test_wrong_places(self):
        for call in WITH_PLACES:
            for wrong in NO_VALUES + [0, [0, 1], "01", {0: 1}, {0}]:
                self.tells(InvalidPlaces(None), call, SQUARE, wrong)
            for wrong in NO_PLACES + [4, 5]:
                self.tells(InvalidPlaces(0), call, SQUARE, (wrong,))
                self.tells(InvalidPlaces(2), call, SQUARE, (3, 0, wrong, wrong, 0))
            self.tells(InvalidPlaces(1), call, SQUARE, (0, 0))
            self.tells(InvalidPlaces(2), call, SQUARE, (1, 0, 1, 0))
            self.tells(InvalidPlaces(4), call, SQUARE, (3, 2, 1, 0, 4))
            self.tells(InvalidPlaces(4), call, SQUARE, (3, 2, 1, 0, 3))
            self.tells(InvalidPlaces(0), call, SQUARE, nested(20))

    def test_other_size(self):
        for call in WITH_TWO:
            self.tells(OtherSize(), call, SQUARE, ring(5))
            self.tells(OtherSize(), call, ring(5), SQUARE)
            self.tells(OtherSize(), call, Board(1, (), ()), Board(2, (), ()))

    def test_order_of_errors(self):
        board = (0, "4", NotABoard("4"))
        no_turn, no_tuple = (0, 0, 1, 2), [0]
        for call in WITH_TURN[:3]:
            self.tells_in_order(call, (SQUARE, (1, 2, 3, 0)), board, (1, no_turn, InvalidTurn(no_turn)), (1, (0,), OtherSize()))
        self.tells_in_order(
            number_of, (SQUARE, (1, 2, 3, 0)), board, (1, no_turn, InvalidTurn(no_turn)), (1, (0,), OtherSize()),
            (1, (0, 2, 1, 3), NotInside(1)),
        )
        self.tells_in_order(keeping, (SQUARE, ()), board, (1, no_tuple, InvalidPlaces(None)))
        self.tells_in_order(
            holding, (whole(24), ()), board, (1, (0, 24), InvalidPlaces(1)), (1, tuple(range(12)), TooMany(20000)),
        )
        self.tells_in_order(member_at, (SQUARE, 0), board, (1, 8, InvalidNumber(8)))
        for call in WITH_TWO:
            self.tells_in_order(call, (SQUARE, SQUARE), board, (1, None, NotABoard(None)), (1, ring(5), OtherSize()))

    def test_boards_are_not_changed(self):
        board = ring_turned_over(5)
        before = (dict(vars(board)), board.text)
        for call in ON_BOARDS:
            call(board)
        for call in WITH_TURN:
            call(board, (1, 2, 3, 4, 0))
        for call in WITH_PLACES:
            call(board, (0, 2))
        for call in WITH_TWO:
            call(board, board)
        member_at(board, 3)
        self.assertEqual((dict(vars(board)), board.text), before)


if __name__ == "__main__":
    unittest.main()
