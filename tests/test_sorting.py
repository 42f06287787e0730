"""Tests of seatbuttons.sorting against going through all ways, and on turns of up to 24 places."""

import itertools
import random
import unittest

from seatbuttons.errors import InvalidIndex, InvalidNumber, InvalidTurn, InvalidWay, NotShortest, OtherSize, TooMany
from seatbuttons.sorting import common_beginning, crossings, first_way, how_many_ways, index_of_way, is_beginning
from seatbuttons.sorting import is_below, just_below, nth_way, turn_of_way
from seatbuttons.turns import turn_of

from tests.support import NO_INTEGERS, NO_PLACES, NO_VALUES, Telling, all_turns, led_back, nested, one_then, staying
from tests.support import wrong_turns


def swap(size, at):
    return turn_of(size, ((at, at + 1),))


def made_by(size, way):
    """The turn of a way, one swap then the next."""
    made = staying(size)
    for at in way:
        made = one_then(made, swap(size, at))
    return made


def all_ways(size):
    """For each turn all of its shortest ways, ascending, by going on from all that have one swap less."""
    ways, latest = {}, {staying(size): [()]}
    while latest:
        ways.update(latest)
        later = {}
        for turn, found in latest.items():
            for at in range(size - 1):
                made = one_then(turn, swap(size, at))
                if made not in ways:
                    later.setdefault(made, []).extend(way + (at,) for way in found)
        latest = later
    return {turn: sorted(found) for turn, found in ways.items()}


WAYS = {size: all_ways(size) for size in (1, 2, 3, 4)}


def shuffled(size, rng):
    return tuple(rng.sample(range(size), size))


def some_great_turns():
    rng = random.Random(50)
    turns = [staying(24), staying(24)[::-1], tuple(range(1, 24)) + (0,), turn_of(24, ((0, 23),)), (1, 0) + staying(24)[2:]]
    return turns + [shuffled(size, rng) for size in (9, 12, 23, 24, 24)]


class AllWays(Telling):
    def test_crossings_and_first_ways(self):
        for size, ways in WAYS.items():
            for turn in all_turns(size):
                told = [(one, other) for one, other in itertools.combinations(range(size), 2) if turn[one] > turn[other]]
                self.gives(tuple(told), crossings, turn)
                self.assertEqual(len(told), len(ways[turn][0]))
                self.gives(ways[turn][0], first_way, turn)

    def test_turns_of_ways(self):
        for size in (1, 2, 3, 4):
            for many in range(5):
                for way in itertools.product(range(size - 1), repeat=many):
                    self.gives(made_by(size, way), turn_of_way, size, way)

    def test_how_many_and_their_indexes(self):
        for size, ways in WAYS.items():
            for turn, found in ways.items():
                self.gives(len(found), how_many_ways, turn)
                for index, way in enumerate(found):
                    self.gives(way, nth_way, turn, index)
                    self.gives(index, index_of_way, size, way)
                for index in (-1, len(found), len(found) + 1, 10 ** 30):
                    self.tells(InvalidIndex(index), nth_way, turn, index)

    def test_longer_ways(self):
        for size in (2, 3, 4):
            for many in range(6):
                for way in itertools.product(range(size - 1), repeat=many):
                    if way not in WAYS[size][made_by(size, way)]:
                        self.tells(NotShortest(way), index_of_way, size, way)

    def test_is_below(self):
        for size, ways in WAYS.items():
            for other, found in ways.items():
                parts = {made_by(size, part) for way in found for many in range(len(way) + 1)
                         for part in itertools.combinations(way, many)}
                for one in ways:
                    self.gives(one in parts, is_below, one, other)

    def test_is_beginning(self):
        for ways in WAYS.values():
            for one, other in itertools.product(ways, repeat=2):
                told = any(way[:len(start)] == start for way in ways[other] for start in ways[one])
                self.gives(told, is_beginning, one, other)

    def test_common_beginning(self):
        for size, ways in WAYS.items():
            starts = {turn: {made_by(size, way[:many]) for way in found for many in range(len(way) + 1)}
                      for turn, found in ways.items()}
            for one, other in itertools.product(ways, repeat=2):
                both = starts[one] & starts[other]
                told = [turn for turn in both if both <= starts[turn]]
                self.assertEqual(len(told), 1)
                self.gives(told[0], common_beginning, one, other)

    def test_just_below(self):
        for size, ways in WAYS.items():
            for turn, found in ways.items():
                lesser = {made_by(size, way[:at] + way[at + 1:]) for way in found for at in range(len(way))}
                told = sorted(other for other in lesser if len(ways[other][0]) == len(found[0]) - 1)
                self.gives(tuple(told), just_below, turn)


class GreatTurns(Telling):
    def test_crossings_and_ways(self):
        self.gives(tuple(itertools.combinations(range(24), 2)), crossings, staying(24)[::-1])
        self.gives((), crossings, staying(24))
        self.gives((), first_way, staying(24))
        self.gives(tuple(range(22, -1, -1)), first_way, tuple(range(1, 24)) + (0,))
        self.gives(tuple(range(23)), first_way, (23,) + staying(23))
        self.gives(tuple(at for last in range(23) for at in range(last, -1, -1)), first_way, staying(24)[::-1])
        for turn in some_great_turns():
            way = first_way(turn)
            self.assertEqual(len(way), len(crossings(turn)))
            self.assertEqual(made_by(len(turn), way), turn)
            self.gives(turn, turn_of_way, len(turn), way)

    def test_below_and_beginnings(self):
        top = staying(24)[::-1]
        for turn in some_great_turns():
            size = len(turn)
            way = first_way(turn)
            for many in (0, len(way) // 3, len(way)):
                start, rest = made_by(size, way[:many]), made_by(size, way[many:])
                self.gives(True, is_beginning, start, turn)
                self.gives(True, is_below, start, turn)
                self.gives(True, is_below, rest, turn)
                self.gives(many == len(way), is_beginning, turn, start)
                self.gives(many == len(way), is_below, turn, start)
                self.gives(start, common_beginning, start, turn)
                self.gives(start, common_beginning, turn, start)
            part = made_by(size, way[::2] if len(crossings(made_by(size, way[::2]))) == len(way[::2]) else way[:1])
            self.gives(True, is_below, part, turn)
            if size == 24:
                self.gives(True, is_below, turn, top)
                self.gives(turn, common_beginning, turn, top)
                self.gives(staying(24), common_beginning, staying(24), turn)

    def test_common_beginnings_of_great_turns(self):
        rng = random.Random(51)
        for size in (5, 6, 24):
            for _ in range(20):
                one, other = shuffled(size, rng), shuffled(size, rng)
                both = common_beginning(one, other)
                self.assertEqual(common_beginning(other=one, one=other), both)
                self.assertTrue(is_beginning(both, one) and is_beginning(both, other))
                # No swap more is a beginning of both.
                for at in range(size - 1):
                    more = one_then(both, swap(size, at))
                    if len(crossings(more)) > len(crossings(both)):
                        self.assertFalse(is_beginning(more, one) and is_beginning(more, other))

    def test_just_below(self):
        self.gives((), just_below, staying(24))
        self.gives((staying(24),), just_below, (1, 0) + staying(24)[2:])
        self.assertEqual(len(just_below(staying(24)[::-1])), 23)
        for turn in some_great_turns():
            found = just_below(turn)
            self.assertEqual(list(found), sorted(set(found)))
            swapped = [one_then(turn_of(len(turn), (pair,)), turn) for pair in itertools.combinations(range(len(turn)), 2)]
            told = [other for other in swapped if len(crossings(other)) == len(crossings(turn)) - 1]
            self.gives(tuple(sorted(told)), just_below, turn)

    def test_ways_of_up_to_eight_places(self):
        rng = random.Random(52)
        for size, told in ((5, 768), (6, 292864), (7, 1100742656), (8, 48608795688960)):
            top = staying(size)[::-1]
            self.gives(told, how_many_ways, top)
            last = tuple(size - 2 - at for at in first_way(top))
            self.gives(first_way(top), nth_way, top, 0)
            self.gives(last, nth_way, top, told - 1)
            self.gives(told - 1, index_of_way, size, last)
            self.tells(InvalidIndex(told), nth_way, top, told)
        for _ in range(8):
            turn = shuffled(8, rng)
            many = how_many_ways(turn)
            self.assertEqual(how_many_ways(led_back(turn)), many)
            for index in {0, many // 3, many // 2, many - 1}:
                way = nth_way(turn, index)
                self.assertEqual((made_by(8, way), len(way)), (turn, len(crossings(turn))))
                self.gives(index, index_of_way, 8, way)

    def test_more_than_eight_places(self):
        for size in (9, 10, 24):
            for turn in (staying(size), staying(size)[::-1]):
                self.tells(TooMany(8), how_many_ways, turn)
                for index in (0, -1, None, 10 ** 30):
                    self.tells(TooMany(8), nth_way, turn, index)
            for way in ((), (0,), (0, 0), (size - 2, 0)):
                self.tells(TooMany(8), index_of_way, size, way)
        self.gives(1, how_many_ways, staying(8))
        self.gives((), nth_way, staying(8), 0)
        self.gives(0, index_of_way, 8, ())
        self.gives(1, index_of_way, 8, (6, 0))


ON_TURNS = (crossings, first_way, how_many_ways, just_below)
ON_WAYS = (turn_of_way, index_of_way)
WITH_TWO = (is_below, is_beginning, common_beginning)


class Wrong(Telling):
    def test_names(self):
        for call in ON_TURNS:
            self.takes(call, "turn")
        for call in ON_WAYS:
            self.takes(call, "size", "way")
        for call in WITH_TWO:
            self.takes(call, "one", "other")
        self.takes(nth_way, "turn", "index")

    def test_wrong_turns(self):
        for wrong in wrong_turns():
            for call in ON_TURNS:
                self.tells(InvalidTurn(wrong), call, wrong)
            for call in WITH_TWO:
                self.tells(InvalidTurn(wrong), call, wrong, (0, 1))
                self.tells(InvalidTurn(wrong), call, (0, 1), wrong)
            self.tells(InvalidTurn(wrong), nth_way, wrong, 0)

    def test_other_size(self):
        for call in WITH_TWO:
            for one, other in itertools.product((1, 2, 3, 24), repeat=2):
                if one != other:
                    self.tells(OtherSize(), call, staying(one), staying(other))

    def test_wrong_sizes(self):
        for call in ON_WAYS:
            for wrong in NO_INTEGERS + [0, -1, 25, 10 ** 30, -10 ** 30]:
                self.tells(InvalidNumber(wrong), call, wrong, ())

    def test_wrong_ways(self):
        for call in ON_WAYS:
            for wrong in NO_VALUES + [0, [0], "0", {0: 0}, {0}]:
                self.tells(InvalidWay(None), call, 4, wrong)
            for wrong in NO_PLACES + [3, 4, (0, 1)]:
                self.tells(InvalidWay(0), call, 4, (wrong,))
                self.tells(InvalidWay(2), call, 4, (0, 2, wrong, wrong))
            self.tells(InvalidWay(0), call, 1, (0,))
            self.tells(InvalidWay(1), call, 2, (0, 1))
            self.tells(InvalidWay(0), call, 4, nested(20))
        self.gives((0,), turn_of_way, 1, ())
        self.gives(0, index_of_way, 1, ())

    def test_2001_integers(self):
        many = (0, 1) * 1000
        self.gives(made_by(3, many[:2000 % 6]), turn_of_way, 3, many)
        self.tells(NotShortest(many), index_of_way, 3, many)
        for call in ON_WAYS:
            for size in (3, 24):
                self.tells(InvalidWay(2000), call, size, many + (0,))
                self.tells(InvalidWay(2000), call, size, many + (None, None))
                self.tells(InvalidWay(1999), call, size, many[1:] + (None, None))
                self.tells(InvalidWay(0), call, size, (-1, *many))

    def test_wrong_indexes(self):
        for wrong in NO_INTEGERS + [-1, 16, 17, 10 ** 30, -10 ** 30]:
            self.tells(InvalidIndex(wrong), nth_way, (3, 2, 1, 0), wrong)
        self.tells(InvalidIndex(1), nth_way, (0,), 1)

    def test_order_of_errors(self):
        no_turn, great = (0, 0), staying(9)
        self.tells_in_order(nth_way, ((1, 0), 0), (0, no_turn, InvalidTurn(no_turn)), (0, great, TooMany(8)),
                            (1, 1, InvalidIndex(1)))
        self.tells_in_order(turn_of_way, (3, (0,)), (0, 25, InvalidNumber(25)), (1, (0, 2), InvalidWay(1)))
        self.tells_in_order(index_of_way, (3, (0,)), (0, 25, InvalidNumber(25)), (1, (0, -1), InvalidWay(1)),
                            (0, 9, TooMany(8)))
        twice = (0, 0)
        self.tells_in_order(index_of_way, (3, (0,)), (1, (0, -1), InvalidWay(1)), (0, 9, TooMany(8)),
                            (1, twice, NotShortest(twice)))
        for call in WITH_TWO:
            self.tells_in_order(call, ((0, 1), (1, 0)), (0, no_turn, InvalidTurn(no_turn)), (1, no_turn, InvalidTurn(no_turn)),
                                (1, (0,), OtherSize()))


if __name__ == "__main__":
    unittest.main()
