import unittest

from seatbuttons.errors import InvalidNumber, InvalidTurn, OtherSize
from seatbuttons.turns import (
    back, back_after_turn, commutes, is_even, kind_of, moved, power, rings, root, roots, then, turn_of,
    turned_by,
)
from tests.support import (
    NO_INTEGERS, NO_VALUES, Telling, all_turns, nested, one_then, staying, times_over, wrong_turns,
)

WHEEL = tuple(range(1, 24)) + (0,)
# Rings of 5, 7, 2, 9 and 1 places, none of them a run of places.
MIXED_RINGS = (
    (0, 17, 5, 20, 9), (1, 8, 3, 23, 12, 6, 15), (2, 19), (4, 22, 10, 7, 14, 21, 11, 18, 13), (16,),
)
MIXED = (17, 8, 19, 23, 22, 20, 15, 14, 3, 0, 7, 18, 6, 4, 21, 1, 16, 5, 13, 2, 9, 11, 10, 12)
BEYOND = [10 ** 30 + 1, -10 ** 30 - 1, 10 ** 31, -10 ** 31, 2 * 10 ** 59, -10 ** 59]

OF_ONE_TURN = [rings, kind_of, is_even, back, back_after_turn, moved]
OF_TWO_TURNS = [then, turned_by, commutes]


class Arguments(Telling):
    def test_names(self):
        for call in OF_ONE_TURN:
            self.takes(call, "turn")
        self.takes(then, "one", "other")
        self.takes(commutes, "one", "other")
        self.takes(turned_by, "turn", "other")
        self.takes(power, "turn", "number")
        self.takes(roots, "turn", "number")
        self.takes(root, "turn", "number")
        self.takes(turn_of, "size", "rings")

    def test_defined_in_the_file_that_lists_them(self):
        for call in OF_ONE_TURN + OF_TWO_TURNS + [power, roots, root, turn_of]:
            self.assertEqual(call.__module__, "seatbuttons.turns")


class Rings(Telling):
    def test_rings(self):
        self.gives(((0,),), rings, (0,))
        self.gives(((0, 1),), rings, (1, 0))
        self.gives(((0, 1), (2,)), rings, (1, 0, 2))
        self.gives(((0, 2, 1), (3,)), rings, (2, 0, 1, 3))
        self.gives(((0, 3), (1, 2)), rings, (3, 2, 1, 0))
        self.gives(tuple((place,) for place in range(24)), rings, staying(24))
        self.gives((staying(24),), rings, WHEEL)
        self.gives(MIXED_RINGS, rings, MIXED)
        self.gives(((0, 23, 22, 21, 20, 19, 18, 17, 16, 15, 14, 13, 12, 11, 10, 9, 8, 7, 6, 5, 4, 3, 2, 1),),
                   rings, (23,) + tuple(range(23)))

    def test_rings_of_all_turns_of_few_places(self):
        for size in range(1, 7):
            for turn in all_turns(size):
                found = rings(turn)
                self.assertEqual(list(found), sorted(found))
                self.assertEqual(sorted(place for ring in found for place in ring), list(range(size)))
                for ring in found:
                    self.assertEqual(ring[0], min(ring))
                    for at, place in enumerate(ring):
                        self.assertEqual(turn[place], ring[(at + 1) % len(ring)])

    def test_kind_of(self):
        self.gives((1,), kind_of, (0,))
        self.gives((1,) * 24, kind_of, staying(24))
        self.gives((24,), kind_of, WHEEL)
        self.gives((2, 1), kind_of, (0, 2, 1))
        self.gives((3, 2, 2, 1), kind_of, (1, 0, 2, 4, 5, 3, 7, 6))
        self.gives((9, 7, 5, 2, 1), kind_of, MIXED)

    def test_is_even(self):
        self.gives(True, is_even, (0,))
        self.gives(False, is_even, (1, 0))
        self.gives(True, is_even, (1, 2, 0))
        self.gives(True, is_even, (1, 0, 3, 2))
        self.gives(False, is_even, (1, 2, 3, 0))
        self.gives(False, is_even, WHEEL)
        self.gives(True, is_even, staying(24))
        self.gives(False, is_even, MIXED)
        for turn in all_turns(5):
            crossings = [1 for low in range(5) for high in range(low, 5) if turn[low] > turn[high]]
            self.assertEqual(is_even(turn), len(crossings) % 2 == 0)

    def test_moved(self):
        self.gives((), moved, (0,))
        self.gives((), moved, staying(24))
        self.gives((0, 2), moved, (2, 1, 0))
        self.gives((1, 2, 3), moved, (0, 3, 1, 2))
        self.gives(staying(24), moved, WHEEL)
        self.gives(tuple(place for place in range(24) if place != 16), moved, MIXED)

    def test_turn_of(self):
        self.gives((0,), turn_of, 1, ())
        self.gives((0,), turn_of, 1, ((0,),))
        self.gives((0, 1), turn_of, 2, ())
        self.gives((1, 0), turn_of, 2, ((1, 0),))
        self.gives((2, 1, 0, 3), turn_of, 4, ((2, 0),))
        self.gives((1, 2, 0), turn_of, 3, ((2, 0, 1),))
        self.gives((2, 0, 1), turn_of, 3, ((2, 1, 0),))
        self.gives((4, 1, 3, 2, 0), turn_of, 5, ((3, 2), (1,), (4, 0)))
        self.gives(staying(24), turn_of, 24, ())
        self.gives(WHEEL, turn_of, 24, (tuple(range(13, 24)) + tuple(range(13)),))

    def test_turn_of_rings_begun_anywhere_and_in_any_order(self):
        for size in range(1, 6):
            for turn in all_turns(size):
                for shift in range(size):
                    begun = [ring[shift % len(ring):] + ring[:shift % len(ring)] for ring in rings(turn)]
                    self.assertEqual(turn_of(size, tuple(begun)), turn)
                    self.assertEqual(turn_of(size, tuple(reversed(begun))), turn)
                    longer = tuple(ring for ring in begun if len(ring) > 1)
                    self.assertEqual(turn_of(size, longer), turn)
        self.gives(MIXED, turn_of, 24, MIXED_RINGS)
        self.gives(MIXED, turn_of, 24, tuple(reversed(MIXED_RINGS[:4])))


class Together(Telling):
    def test_then(self):
        self.gives((0,), then, (0,), (0,))
        self.gives((2, 1, 0), then, (1, 0, 2), (1, 2, 0))
        self.gives((0, 2, 1), then, (1, 2, 0), (1, 0, 2))
        self.gives(tuple(range(2, 24)) + (0, 1), then, WHEEL, WHEEL)
        for one in all_turns(4):
            for other in all_turns(4):
                self.assertEqual(then(one, other), one_then(one, other))

    def test_back(self):
        self.gives((0,), back, (0,))
        self.gives((2, 0, 1), back, (1, 2, 0))
        self.gives((23,) + tuple(range(23)), back, WHEEL)
        self.gives(staying(24), back, staying(24))
        for turn in all_turns(5) + [WHEEL, MIXED]:
            self.assertEqual(then(turn, back(turn)), staying(len(turn)))
            self.assertEqual(then(back(turn), turn), staying(len(turn)))

    def test_turned_by(self):
        self.gives((0,), turned_by, (0,), (0,))
        self.gives((0, 2, 1), turned_by, (1, 2, 0), (1, 0, 2))
        self.gives((2, 1, 0), turned_by, (0, 2, 1), (1, 0, 2))
        for turn in all_turns(4):
            for other in all_turns(4):
                renamed = [0] * 4
                for place in range(4):
                    renamed[turn[place]] = turn[other[place]]
                self.assertEqual(turned_by(turn, other), tuple(renamed))
        self.assertEqual(kind_of(turned_by(WHEEL, MIXED)), kind_of(MIXED))
        self.assertEqual(turned_by(MIXED, WHEEL), one_then(one_then(back(MIXED), WHEEL), MIXED))

    def test_commutes(self):
        self.gives(True, commutes, (0,), (0,))
        self.gives(False, commutes, (1, 0, 2), (1, 2, 0))
        self.gives(True, commutes, (1, 2, 0), (2, 0, 1))
        self.gives(True, commutes, (1, 0, 2, 3), (0, 1, 3, 2))
        self.gives(False, commutes, WHEEL, MIXED)
        self.gives(True, commutes, WHEEL, power(WHEEL, 5))
        self.gives(True, commutes, staying(24), MIXED)
        for one in all_turns(4):
            for other in all_turns(4):
                self.assertIs(commutes(one, other), one_then(one, other) == one_then(other, one))


class Powers(Telling):
    def test_power(self):
        self.gives((1, 2, 0), power, (1, 2, 0), 1)
        self.gives((2, 0, 1), power, (1, 2, 0), -1)
        self.gives((2, 0, 1), power, (1, 2, 0), 2)
        self.gives((0, 1, 2), power, (1, 2, 0), 0)
        self.gives((0, 1, 2), power, (1, 2, 0), 3)
        self.gives((0,), power, (0,), 10 ** 30)
        self.gives(staying(24), power, staying(24), -10 ** 30)

    def test_power_is_so_many_one_then_the_other(self):
        for turn in all_turns(4) + [(1, 2, 0, 4, 3), (1, 2, 3, 4, 5, 0), WHEEL, MIXED]:
            for number in range(31):
                self.assertEqual(power(turn, number), times_over(turn, number))
                self.assertEqual(power(turn, -number), times_over(back(turn), number))

    def test_power_with_great_numbers(self):
        for turn in [(1, 2, 0), (1, 2, 3, 4, 5, 6, 0), WHEEL, MIXED]:
            around = back_after_turn(turn)
            for number in (10 ** 30, 10 ** 30 - 1, 10 ** 20, 2 ** 64, 2 ** 63 - 1, 2 ** 53 + 1):
                self.assertEqual(power(turn, number), times_over(turn, number % around))
                self.assertEqual(power(turn, -number), times_over(back(turn), number % around))

    def test_back_after_turn(self):
        self.gives(1, back_after_turn, (0,))
        self.gives(1, back_after_turn, staying(24))
        self.gives(2, back_after_turn, (1, 0, 2))
        self.gives(6, back_after_turn, (1, 0, 3, 4, 2))
        self.gives(4, back_after_turn, (1, 0, 3, 4, 5, 2))
        self.gives(24, back_after_turn, WHEEL)
        self.gives(630, back_after_turn, MIXED)
        self.gives(840, back_after_turn, turn_of(24, ((0, 1, 2), (3, 4, 5, 6, 7), (8, 9, 10, 11, 12, 13, 14),
                                                      (15, 16, 17, 18, 19, 20, 21, 22))))

    def test_back_after_turn_is_the_least_number(self):
        for size in range(1, 7):
            for turn in all_turns(size):
                number = 1
                made = turn
                while made != staying(size):
                    made = one_then(made, turn)
                    number += 1
                self.assertEqual(back_after_turn(turn), number)


class WrongTurns(Telling):
    def test_one_turn(self):
        for wrong in wrong_turns():
            for call in OF_ONE_TURN:
                self.tells_given(InvalidTurn, wrong, call, wrong)
                self.tells_given(InvalidTurn, wrong, call, turn=wrong)

    def test_a_turn_and_a_number(self):
        for wrong in wrong_turns():
            for call in (power, roots, root):
                self.tells_given(InvalidTurn, wrong, call, wrong, 1)
                self.tells_given(InvalidTurn, wrong, call, number=1, turn=wrong)
                self.tells_given(InvalidTurn, wrong, call, wrong, None)

    def test_two_turns(self):
        for wrong in wrong_turns():
            for right in ((0,), (1, 0), staying(24)):
                for call in OF_TWO_TURNS:
                    self.tells_given(InvalidTurn, wrong, call, wrong, right)
                    self.tells_given(InvalidTurn, wrong, call, right, wrong)

    def test_the_first_wrong_turn_is_told(self):
        for call in OF_TWO_TURNS:
            for one, other in (([0], [1]), ((0, 0), (1, 1)), (True, None), ((), tuple(range(25)))):
                self.tells_given(InvalidTurn, one, call, one, other)
        self.tells_given(InvalidTurn, (0, 0), then, other=None, one=(0, 0))
        self.tells_given(InvalidTurn, (0, 0), turned_by, other=None, turn=(0, 0))

    def test_sizes(self):
        for call in OF_TWO_TURNS:
            for one, other in (((0,), (1, 0)), ((1, 0), (0,)), (staying(23), WHEEL), (WHEEL, (0,))):
                self.raised(OtherSize, call, one, other)

    def test_a_wrong_turn_is_told_ahead_of_sizes(self):
        for call in OF_TWO_TURNS:
            for right, wrong in (((0,), (0, 0)), ((0,), (1, True)), ((1, 0), ()), (staying(24), (0, 2))):
                self.tells_given(InvalidTurn, wrong, call, right, wrong)
                self.tells_given(InvalidTurn, wrong, call, wrong, right)


class WrongNumbers(Telling):
    def test_power(self):
        for wrong in NO_INTEGERS + BEYOND:
            for turn in ((0,), (1, 2, 0), WHEEL):
                self.tells_given(InvalidNumber, wrong, power, turn, wrong)
                self.tells_given(InvalidNumber, wrong, power, number=wrong, turn=turn)

    def test_size_of_turn_of(self):
        for wrong in NO_INTEGERS + BEYOND + [0, -1, 25, 26, 100]:
            for given in ((), ((0,),), None, [], ((0, 0),)):
                self.tells_given(InvalidNumber, wrong, turn_of, wrong, given)
                self.tells_given(InvalidNumber, wrong, turn_of, rings=given, size=wrong)


class WrongRings(Telling):
    def test_what_is_no_tuple_of_rings(self):
        wrong = NO_VALUES + [0, [[0, 1]], [(0, 1)], {(0, 1): 1}, "01", (0, 1), (0,), nested(20), (nested(19),)]
        for given in wrong:
            for size in (1, 4, 24):
                self.tells_given(InvalidTurn, given, turn_of, size, given)
                self.tells_given(InvalidTurn, given, turn_of, rings=given, size=size)

    def test_wrong_rings(self):
        wrong = [((),), ((0, 1), ()), ((), (0, 1)), ([0, 1],), ((0, 1), [2]), ((0, 1), 2), ((0, 1), None)]
        wrong += [((0, 0),), ((0, 1), (1, 2)), ((0,), (0,)), ((0, 1, 2, 3, 0),), ((0, 1), (2, 3), (0,))]
        wrong += [((-1,),), ((4,),), ((0, 4),), ((3, 4),), ((0, 1), (2, -1)), ((10 ** 30,),), ((24,),)]
        wrong += [((True, 0),), ((0, True),), ((False,),), ((2, 3), (False, 1)), ((1,), (True,)), (("0", "1"),)]
        wrong += [((0, None),), ((0, (1,)),), (((0, 1),),), ((0, [1]),), ((0, {}),), ("01",), (b"\x00",)]
        wrong += [((0,), value) for value in NO_VALUES]
        wrong += [((0, value),) for value in NO_INTEGERS]
        for given in wrong:
            self.tells_given(InvalidTurn, given, turn_of, 4, given)

    def test_places_are_those_of_the_size(self):
        for size in range(1, 25):
            self.assertEqual(turn_of(size, ((size - 1,),)), staying(size))
            for given in (((size,),), ((0, size),), (tuple(range(size + 1)),), ((-1, 0),)):
                self.tells_given(InvalidTurn, given, turn_of, size, given)


if __name__ == "__main__":
    unittest.main()
