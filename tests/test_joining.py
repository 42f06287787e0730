"""Tests of seatbuttons.joining against going through all turns, and on kinds of 24 places."""

import itertools
import math
import unittest

from seatbuttons.errors import Barred, InvalidKind, InvalidTurn, OtherSize
from seatbuttons.joining import bars, can, complete, fewest_rings, how_many_joins, make, plane_joins, share
from seatbuttons.kinds import all_kinds, first_turn, how_many_turns
from seatbuttons.turns import kind_of, rings

from tests.support import Telling, all_turns, one_then, wrong_kinds, wrong_turns

ON_KINDS = (can, bars, make, fewest_rings, how_many_joins, share, plane_joins)


def pairs_of_kinds(size):
    return list(itertools.product(all_kinds(size), repeat=2))


def room(one, other):
    """n + 1 - k - m."""
    return sum(one) + 1 - len(one) - len(other)


def what_bars(one, other):
    if room(one, other) % 2 == 1:
        return "sign"
    return "rings" if room(one, other) < 0 else None


class SmallKinds(Telling):
    """All pairs of kinds of up to five places, against all pairs of turns of them."""

    @classmethod
    def setUpClass(cls):
        cls.made = {}
        for size in range(1, 6):
            told_ring = first_turn((size,))
            for one, other in pairs_of_kinds(size):
                cls.made[one, other] = {"rings": [], "joins": 0}
            kinds = {turn: kind_of(turn) for turn in all_turns(size)}
            for first, second in itertools.product(kinds, repeat=2):
                told = cls.made[kinds[first], kinds[second]]
                turn = one_then(first, second)
                told["rings"].append(len(kinds[turn]))
                told["joins"] += turn == told_ring

    def test_can_and_bars(self):
        for (one, other), told in self.made.items():
            self.gives(1 in told["rings"], can, one, other)
            self.gives(what_bars(one, other), bars, one, other)
            self.assertEqual(bars(one, other) is None, can(one, other))

    def test_fewest_rings(self):
        for (one, other), told in self.made.items():
            self.gives(min(told["rings"]), fewest_rings, one, other)

    def test_how_many_joins(self):
        for (one, other), told in self.made.items():
            self.gives(told["joins"], how_many_joins, one, other)

    def test_share(self):
        for (one, other), told in self.made.items():
            top, bottom = told["rings"].count(1), len(told["rings"])
            common = math.gcd(top, bottom)
            self.gives((top // common, bottom // common), share, one, other)

    def test_make(self):
        for (one, other), told in self.made.items():
            if 1 in told["rings"]:
                self.check_made(one, other)
            else:
                self.tells(Barred(what_bars(one, other)), make, one, other)

    def check_made(self, one, other):
        pair = make(one, other)
        self.assertIs(type(pair), tuple)
        first, second = pair
        self.assertEqual((kind_of(first), kind_of(second)), (one, other))
        self.assertEqual(len(rings(one_then(first, second))), 1, (one, other))
        self.assertEqual(make(one=one, other=other), pair)

    def test_complete(self):
        for size in range(1, 6):
            for turn, kind in itertools.product(all_turns(size), all_kinds(size)):
                barred = what_bars(kind_of(turn), kind)
                if barred is not None:
                    self.tells(Barred(barred), complete, turn, kind)
                    continue
                found = complete(turn, kind)
                self.assertEqual(kind_of(found), kind)
                self.assertEqual(len(rings(one_then(turn, found))), 1, (turn, kind))
                self.assertEqual(complete(kind=kind, turn=turn), found)

    def test_plane_joins(self):
        for (one, other), told in self.made.items():
            if room(one, other) == 0:
                self.gives(told["joins"], plane_joins, one, other)
            else:
                self.tells(Barred(what_bars(one, other) or "handles"), plane_joins, one, other)

    def test_all_sorts_of_bars_were_met(self):
        met = {what_bars(one, other) for one, other in self.made}
        self.assertEqual(met, {None, "sign", "rings"})
        self.assertTrue(any(what_bars(*pair) is None and room(*pair) > 0 for pair in self.made))


class SixPlaces(unittest.TestCase):
    def test_with_one_turn_of_the_first_kind(self):
        """All turns of a kind are one another's renamings: one of them tells for all."""
        turns = {}
        for turn in all_turns(6):
            turns.setdefault(kind_of(turn), []).append(turn)
        for one, other in pairs_of_kinds(6):
            made = [len(rings(one_then(first_turn(one), turn))) for turn in turns[other]]
            self.assertEqual(fewest_rings(one, other), min(made), (one, other))
            common = math.gcd(made.count(1), len(made))
            self.assertEqual(share(one, other), (made.count(1) // common, len(made) // common))


class OrderOfKinds(Telling):
    def test_pairs_are_made_in_both_orders(self):
        for size in (6, 7, 8, 9):
            for one, other in pairs_of_kinds(size):
                if what_bars(one, other) is None:
                    first, second = make(one, other)
                    self.assertEqual((kind_of(first), kind_of(second)), (one, other))
                    self.assertEqual(kind_of(one_then(first, second)), (size,), (one, other))

    def test_both_orders_tell_the_same(self):
        for one, other in pairs_of_kinds(7):
            for call in (can, bars, fewest_rings, how_many_joins, share):
                self.assertEqual(call(one, other), call(other, one), (call, one, other))

    def test_one_place(self):
        self.gives(True, can, (1,), (1,))
        self.gives(None, bars, (1,), (1,))
        self.gives(((0,), (0,)), make, (1,), (1,))
        self.gives((0,), complete, (0,), (1,))
        self.gives(1, fewest_rings, (1,), (1,))
        self.gives(1, how_many_joins, (1,), (1,))
        self.gives((1, 1), share, (1,), (1,))
        self.gives(1, plane_joins, (1,), (1,))


class ManyPlaces(Telling):
    """Kinds of 24 places."""

    def check_made(self, one, other):
        first, second = make(one, other)
        self.assertEqual((kind_of(first), kind_of(second)), (one, other))
        self.assertEqual(kind_of(one_then(first, second)), (24,), (one, other))
        turn = tuple(23 - place for place in first[::-1])
        found = complete(turn, other)
        self.assertEqual(kind_of(found), other)
        self.assertEqual(kind_of(one_then(turn, found)), (24,))

    def test_many_pairs(self):
        kinds = all_kinds(24)
        for at, one in enumerate(kinds[::97] + kinds[-3:]):
            for other in kinds[at::61] + kinds[-3:]:
                barred = what_bars(one, other)
                self.assertEqual(bars(one, other), barred)
                self.assertIs(can(one, other), barred is None)
                self.assertEqual(how_many_joins(one, other) > 0, barred is None)
                self.assertEqual(fewest_rings(one, other) == 1, barred is None)
                if barred is None:
                    self.check_made(one, other)
                else:
                    self.tells(Barred(barred), make, one, other)
                    self.tells(Barred(barred), plane_joins, one, other)

    def test_all_pairs_of_pairs_of_places(self):
        swaps, nearly = (2,) * 12, (2,) * 11 + (1, 1)
        self.gives("sign", bars, swaps, swaps)
        self.gives(2, fewest_rings, swaps, swaps)
        self.check_made(swaps, nearly)
        self.check_made(nearly, swaps)
        self.gives(12, plane_joins, swaps, nearly)

    def test_known_numbers(self):
        ring, swap, stay = (24,), (2,) + (1,) * 22, (1,) * 24
        self.gives(1, how_many_joins, ring, stay)
        self.gives(1, how_many_joins, stay, ring)
        self.gives(24, plane_joins, (23, 1), swap)
        self.gives(24, plane_joins, swap, (23, 1))
        # Of all turns of one ring two make one ring of an odd number of places in 2 (n-1)! / (n+1) ways.
        self.gives(0, how_many_joins, ring, ring)
        self.gives(2 * math.factorial(22) // 24, how_many_joins, (23,), (23,))
        self.gives((1, 12), share, (23,), (23,))
        self.gives(22, fewest_rings, swap, swap)
        self.gives(24, fewest_rings, stay, stay)
        self.gives((0, 1), share, stay, stay)

    def test_plane_joins_of_many_places(self):
        """Without handles: n (k - 1)! (m - 1)! over the orders of rings of one length (Goulden, Jackson)."""
        kinds = all_kinds(24)
        for one in kinds[::53]:
            for other in [kind for kind in kinds[::7] if room(one, kind) == 0]:
                told = 24 * math.factorial(len(one) - 1) * math.factorial(len(other) - 1)
                for kind in (one, other):
                    for length in set(kind):
                        told //= math.factorial(kind.count(length))
                self.assertEqual(plane_joins(one, other), told, (one, other))

    def test_all_joins_of_a_kind(self):
        """Each turn of a kind makes a told ring with just one other turn."""
        kinds = all_kinds(12)
        for one in kinds[::5]:
            joins = sum(how_many_joins(one, other) for other in kinds)
            self.assertEqual(joins, how_many_turns(one), one)


class Wrong(Telling):
    def test_names(self):
        for call in ON_KINDS:
            self.takes(call, "one", "other")
        self.takes(complete, "turn", "kind")

    def test_no_kinds(self):
        for call in ON_KINDS:
            for wrong in wrong_kinds():
                self.tells(InvalidKind(wrong), call, wrong, (2, 1))
                self.tells(InvalidKind(wrong), call, (2, 1), wrong)

    def test_wrong_turns_and_kinds_to_complete(self):
        for wrong in wrong_turns():
            self.tells(InvalidTurn(wrong), complete, wrong, (2, 1))
        for wrong in wrong_kinds():
            self.tells(InvalidKind(wrong), complete, (1, 0, 2), wrong)

    def test_order_of_errors(self):
        no_list, no_turn, no_kind = [2, 1], (0, 0), (0, 3)
        for call in ON_KINDS:
            self.tells_in_order(
                call, ((2, 1), (2, 1)), (0, no_list, InvalidKind(no_list)), (1, no_kind, InvalidKind(no_kind)),
                (1, (2, 1, 1), OtherSize()),
            )
        self.tells_in_order(
            complete, ((1, 0, 2), (2, 1)), (0, no_turn, InvalidTurn(no_turn)), (1, no_kind, InvalidKind(no_kind)),
            (1, (2, 1, 1), OtherSize()), (1, (3,), Barred("sign")),
        )

    def test_other_size_ahead_of_barred(self):
        for call in ON_KINDS:
            self.tells(OtherSize(), call, (2, 1), (2,))
            self.tells(OtherSize(), call, (1, 1, 1), (1, 1, 1, 1))
            self.tells(OtherSize(), call, (24,), (23,))
        self.tells(OtherSize(), complete, (1, 0), (3,))
        self.tells(OtherSize(), complete, (0, 1), (1, 1, 1))

    def test_barred(self):
        for call in (make, plane_joins):
            self.tells(Barred("sign"), call, (2, 1), (3,))
            self.tells(Barred("rings"), call, (2, 1, 1, 1), (2, 1, 1, 1))
            self.tells(Barred("sign"), call, (1, 1), (1, 1))
            self.tells(Barred("rings"), call, (1, 1, 1), (1, 1, 1))
        self.tells(Barred("handles"), plane_joins, (3,), (3,))
        self.tells(Barred("sign"), complete, (1, 0, 2), (3,))
        self.tells(Barred("rings"), complete, (1, 0, 2, 3, 4), (2, 1, 1, 1))


if __name__ == "__main__":
    unittest.main()
