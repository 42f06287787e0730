import unittest
from math import comb, factorial

from seatbuttons.errors import InvalidNumber, InvalidTurn
from seatbuttons.kinds import all_kinds, first_turn, how_many_turns
from seatbuttons.turns import back, kind_of, power, root, roots, then
from tests.support import NO_INTEGERS, Telling, all_turns, staying, times_over

WHEEL = tuple(range(1, 24)) + (0,)


def is_root(found, turn, number):
    """Whether it is a turn of as many places with this power, and made as turns are told to be."""
    right = isinstance(found, tuple) and sorted(found) == list(range(len(turn)))
    return right and all(type(place) is int for place in found) and power(found, number) == turn


class Roots(Telling):
    def test_roots(self):
        self.gives(1, roots, (0,), 1)
        self.gives(1, roots, (0,), 1000)
        self.gives(4, roots, (0, 1, 2), 2)
        self.gives(3, roots, (0, 1, 2), 3)
        self.gives(6, roots, (0, 1, 2), 6)
        self.gives(0, roots, (1, 0, 2), 2)
        self.gives(1, roots, (1, 2, 0), 2)
        self.gives(0, roots, (1, 2, 0), 3)
        self.gives(2, roots, (1, 0, 3, 2), 2)
        self.gives(1, roots, WHEEL, 1)
        self.gives(0, roots, WHEEL, 2)
        self.gives(0, roots, WHEEL, 1000)
        self.gives(1, roots, WHEEL, 997)

    def test_roots_against_all_turns_of_a_few_places(self):
        for size in range(1, 7):
            for number in [1, 2, 3, 4, 5, 6, 8, 12, 30, 60, 999, 1000]:
                counts = {}
                for turn in all_turns(size):
                    made = power(turn, number)
                    counts[made] = counts.get(made, 0) + 1
                for turn in all_turns(size):
                    self.assertEqual(roots(turn, number), counts.get(turn, 0), (turn, number))

    def test_second_powers_of_all_turns_by_hand(self):
        for size in range(1, 6):
            made = [times_over(turn, 2) for turn in all_turns(size)]
            for turn in all_turns(size):
                self.assertEqual(roots(turn, 2), made.count(turn))

    def test_square_roots_of_the_turn_that_lets_all_stay(self):
        # Turns that are their own way back: the last place stays, or is exchanged with another one.
        counts = [1, 1]
        for size in range(2, 25):
            counts.append(counts[size - 1] + (size - 1) * counts[size - 2])
        for size in range(1, 25):
            self.assertEqual(roots(staying(size), 2), counts[size])

    def test_each_turn_is_the_root_of_just_one(self):
        for size in (7, 12, 24):
            for number in (1, 2, 3, 6, 12, 60, 1000):
                total = sum(how_many_turns(kind) * roots(first_turn(kind), number) for kind in all_kinds(size))
                self.assertEqual(total, factorial(size))

    def test_roots_of_many_rings_of_one_length(self):
        pairs = tuple(place ^ 1 for place in range(24))
        # Six rings of four places each, of twelve pairs that are put together two and two.
        matchings = factorial(12) // (2 ** 6 * factorial(6))
        self.gives(matchings * 2 ** 6, roots, pairs, 2)
        triples = tuple(place - 2 if place % 3 == 2 else place + 1 for place in range(24))
        total = sum(comb(8, 2 * lots) * factorial(2 * lots) // (2 ** lots * factorial(lots)) * 3 ** lots
                    for lots in range(5))
        self.gives(total, roots, triples, 2)

    def test_the_same_for_turns_of_one_kind(self):
        for turn in all_turns(5):
            for number in (2, 3, 4, 6):
                self.assertEqual(roots(turn, number), roots(first_turn(kind_of(turn)), number))


class Root(Telling):
    def test_root(self):
        self.gives((0,), root, (0,), 1)
        self.gives((0,), root, (0,), 1000)
        self.gives(None, root, (1, 0, 2), 2)
        self.gives((2, 0, 1), root, (1, 2, 0), 2)
        self.gives(None, root, (1, 2, 0), 3)
        self.gives(WHEEL, root, WHEEL, 1)
        self.gives(None, root, WHEEL, 2)
        self.gives(None, root, WHEEL, 1000)
        self.gives(WHEEL, root, then(WHEEL, then(WHEEL, then(WHEEL, then(WHEEL, WHEEL)))), 5)

    def test_there_is_one_exactly_if_roots_are_counted(self):
        for size in range(1, 7):
            for number in [1, 2, 3, 4, 5, 6, 12, 60, 1000]:
                for turn in all_turns(size):
                    found = root(turn, number)
                    if roots(turn, number) == 0:
                        self.assertIsNone(found)
                    else:
                        self.assertTrue(is_root(found, turn, number), (turn, number, found))

    def test_turns_of_24_places(self):
        for kind in all_kinds(24):
            turn = first_turn(kind)
            for number in (1, 2, 6, 1000):
                found = root(turn, number)
                self.assertEqual(found is None, roots(turn, number) == 0)
                if found is not None:
                    self.assertTrue(is_root(found, turn, number), (turn, number, found))

    def test_all_numbers(self):
        for number in range(1, 1001):
            for turn in ((1, 2, 0, 3), (1, 0, 3, 2, 5, 4, 7, 6), (1, 2, 0, 4, 5, 3, 6, 7)):
                found = root(turn, number)
                self.assertEqual(found is None, roots(turn, number) == 0)
                self.assertTrue(found is None or is_root(found, turn, number))

    def test_the_same_each_time(self):
        pairs = tuple(place ^ 1 for place in range(24))
        self.assertEqual(root(pairs, 2), root(tuple(list(pairs)), 2))
        self.assertEqual(root(back(pairs), 2), root(pairs, 2))


class WrongNumbers(Telling):
    def test_what_is_no_number_from_1_to_1000(self):
        for wrong in NO_INTEGERS + [0, -1, 1001, 1002, 10 ** 30, -1000, -10 ** 30, "1", "2"]:
            for turn in ((0,), (1, 0, 2), WHEEL):
                for call in (roots, root):
                    self.tells_given(InvalidNumber, wrong, call, turn, wrong)
                    self.tells_given(InvalidNumber, wrong, call, number=wrong, turn=turn)

    def test_the_turn_is_asked_first(self):
        for call in (roots, root):
            for number in (0, 1001, None, True):
                self.tells_given(InvalidTurn, (0, 0), call, (0, 0), number)


if __name__ == "__main__":
    unittest.main()
