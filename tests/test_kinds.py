import unittest
from math import factorial

from seatbuttons.errors import InvalidKind, InvalidNumber
from seatbuttons.kinds import all_kinds, back_after, first_turn, how_many_turns, kind_power
from seatbuttons.turns import back_after_turn, kind_of, power, rings
from tests.support import NO_INTEGERS, Telling, all_turns, staying, wrong_kinds

OF_ONE_KIND = [how_many_turns, first_turn, back_after]
# How many kinds of the sizes from 1 on there are, as tables of partitions tell it.
HOW_MANY = [1, 2, 3, 5, 7, 11, 15, 22, 30, 42, 56, 77, 101, 135, 176, 231, 297, 385, 490, 627, 792, 1002, 1255, 1575]
BEYOND = [10 ** 30 + 1, -1, -2, 10 ** 31, -10 ** 30, 2 * 10 ** 59]


class Arguments(Telling):
    def test_names(self):
        self.takes(all_kinds, "size")
        for call in OF_ONE_KIND:
            self.takes(call, "kind")
        self.takes(kind_power, "kind", "number")

    def test_defined_in_the_file_that_lists_them(self):
        for call in OF_ONE_KIND + [all_kinds, kind_power]:
            self.assertEqual(call.__module__, "seatbuttons.kinds")


class AllKinds(Telling):
    def test_all_kinds(self):
        self.gives(((1,),), all_kinds, 1)
        self.gives(((2,), (1, 1)), all_kinds, 2)
        self.gives(((4,), (3, 1), (2, 2), (2, 1, 1), (1, 1, 1, 1)), all_kinds, 4)
        self.gives(((5,), (4, 1), (3, 2), (3, 1, 1), (2, 2, 1), (2, 1, 1, 1), (1,) * 5), all_kinds, 5)

    def test_how_many_there_are_and_in_which_order(self):
        for size in range(1, 25):
            kinds = all_kinds(size)
            self.assertIs(type(kinds), tuple)
            self.assertEqual(len(kinds), HOW_MANY[size - 1])
            self.assertEqual(list(kinds), sorted(set(kinds), reverse=True))
            for kind in kinds:
                self.assertIs(type(kind), tuple)
                self.assertEqual(sum(kind), size)
                self.assertEqual(list(kind), sorted(kind, reverse=True))
                self.assertGreaterEqual(min(kind), 1)

    def test_they_are_the_kinds_of_all_turns(self):
        for size in range(1, 7):
            self.assertEqual(set(all_kinds(size)), {kind_of(turn) for turn in all_turns(size)})

    def test_wrong_sizes(self):
        for wrong in NO_INTEGERS + [0, -1, 25, 26, 100, 10 ** 30, -10 ** 30]:
            self.tells_given(InvalidNumber, wrong, all_kinds, wrong)
            self.tells_given(InvalidNumber, wrong, all_kinds, size=wrong)


class HowManyTurns(Telling):
    def test_how_many_turns(self):
        self.gives(1, how_many_turns, (1,))
        self.gives(3, how_many_turns, (2, 1))
        self.gives(3, how_many_turns, (2, 2))
        self.gives(1, how_many_turns, (1,) * 24)
        self.gives(276, how_many_turns, (2,) + (1,) * 22)
        self.gives(factorial(23), how_many_turns, (24,))
        self.gives(factorial(24) // (2 ** 12 * factorial(12)), how_many_turns, (2,) * 12)
        self.gives(factorial(24) // (6 * 6 * 2 * 4 * 4 * 2 * factorial(4)), how_many_turns, (6, 6, 4, 4, 1, 1, 1, 1))

    def test_against_all_turns_of_a_few_places(self):
        for size in range(1, 8):
            met = [kind_of(turn) for turn in all_turns(size)]
            for kind in all_kinds(size):
                self.assertEqual(how_many_turns(kind), met.count(kind))

    def test_all_kinds_of_a_size_together_make_all_turns(self):
        for size in range(1, 25):
            self.assertEqual(sum(how_many_turns(kind) for kind in all_kinds(size)), factorial(size))


class FirstTurn(Telling):
    def test_first_turn(self):
        self.gives((0,), first_turn, (1,))
        self.gives((1, 2, 0, 3), first_turn, (3, 1))
        self.gives((1, 0, 3, 2), first_turn, (2, 2))
        self.gives((1, 2, 3, 0, 5, 6, 4, 8, 7, 9, 10), first_turn, (4, 3, 2, 1, 1))
        self.gives(staying(24), first_turn, (1,) * 24)
        self.gives(tuple(range(1, 24)) + (0,), first_turn, (24,))

    def test_its_rings_are_runs_of_places_the_longest_first(self):
        for size in (1, 2, 7, 16, 24):
            for kind in all_kinds(size):
                turn = first_turn(kind)
                self.assertEqual(kind_of(turn), kind)
                self.assertEqual(tuple(len(ring) for ring in rings(turn)), kind)
                self.assertEqual([place for ring in rings(turn) for place in ring], list(range(size)))


class KindPower(Telling):
    def test_kind_power(self):
        self.gives((3, 3, 2, 2), kind_power, (6, 4), 2)
        self.gives((1,) * 10, kind_power, (6, 4), 0)
        self.gives((6, 4), kind_power, (6, 4), 1)
        self.gives((4, 2, 2, 2), kind_power, (6, 4), 3)
        self.gives((1,), kind_power, (1,), 10 ** 30)
        self.gives((3,) * 8, kind_power, (24,), 10 ** 30)
        self.gives((23, 1), kind_power, (23, 1), 10 ** 30)
        self.gives((1,) * 24, kind_power, (24,), 0)

    def test_against_powers_of_turns(self):
        for size in (1, 2, 5, 8, 12):
            for kind in all_kinds(size):
                for number in list(range(13)) + [10 ** 30 - 1, 10 ** 30, 2 ** 64, 3 ** 60]:
                    self.assertEqual(kind_power(kind, number), kind_of(power(first_turn(kind), number)))

    def test_against_powers_of_all_turns(self):
        for turn in all_turns(5):
            for number in range(7):
                self.assertEqual(kind_power(kind_of(turn), number), kind_of(power(turn, number)))

    def test_wrong_numbers(self):
        for wrong in NO_INTEGERS + BEYOND:
            for kind in ((1,), (2, 1), (24,)):
                self.tells_given(InvalidNumber, wrong, kind_power, kind, wrong)
                self.tells_given(InvalidNumber, wrong, kind_power, number=wrong, kind=kind)


class BackAfter(Telling):
    def test_back_after(self):
        self.gives(1, back_after, (1,))
        self.gives(1, back_after, (1,) * 24)
        self.gives(6, back_after, (3, 2))
        self.gives(12, back_after, (6, 4))
        self.gives(24, back_after, (24,))
        self.gives(840, back_after, (8, 7, 5, 3, 1))

    def test_against_turns(self):
        for size in (1, 2, 3, 9, 17, 24):
            for kind in all_kinds(size):
                self.assertEqual(back_after(kind), back_after_turn(first_turn(kind)))
        for turn in all_turns(5):
            self.assertEqual(back_after(kind_of(turn)), back_after_turn(turn))


class WrongKinds(Telling):
    def test_wrong_kinds(self):
        for wrong in wrong_kinds():
            for call in OF_ONE_KIND:
                self.tells_given(InvalidKind, wrong, call, wrong)
                self.tells_given(InvalidKind, wrong, call, kind=wrong)
            self.tells_given(InvalidKind, wrong, kind_power, wrong, 1)
            self.tells_given(InvalidKind, wrong, kind_power, number=1, kind=wrong)

    def test_the_kind_is_asked_first(self):
        for number in (-1, None, True, 10 ** 30 + 1):
            self.tells_given(InvalidKind, (1, 2), kind_power, (1, 2), number)

    def test_the_greatest_sizes_are_kinds(self):
        for kind in ((24,), (12, 12), (1,) * 24, (23, 1), (2,) * 12):
            self.assertEqual(kind_power(kind, 1), kind)


if __name__ == "__main__":
    unittest.main()
