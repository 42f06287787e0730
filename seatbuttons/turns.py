"""Turns of places: rings, powers, roots, and how turns go one behind the other."""

from math import gcd

from seatbuttons.checks import are_rings, check_number, check_turn, check_two_turns
from seatbuttons.errors import InvalidTurn
from seatbuttons.limits import MOST_PLACES, MOST_TIMES
from seatbuttons.unchecked import along, goes_with, is_even_turn, kind_in, led_back, number_back, one_then
from seatbuttons.unchecked import raised_to, renamed_by, rings_in

MOST_ROOT = 1000


def rings(turn):
    """The tuple of the rings of a turn, ascending."""
    check_turn(turn)
    return rings_in(turn)


def kind_of(turn):
    """The kind of a turn: the lengths of its rings, the greatest first."""
    check_turn(turn)
    return kind_in(turn)


def is_even(turn):
    """Whether a turn is even."""
    check_turn(turn)
    return is_even_turn(turn)


def then(one, other):
    """The turn that is the one, then the other."""
    check_two_turns(one, other)
    return one_then(one, other)


def back(turn):
    """The turn that leads back from a turn."""
    check_turn(turn)
    return led_back(turn)


def power(turn, number):
    """The power of a turn with a number."""
    check_turn(turn)
    check_number(number, -MOST_TIMES, MOST_TIMES)
    return raised_to(turn, number)


def back_after_turn(turn):
    """The least number from 1 on with which the power of a turn lets all stay."""
    check_turn(turn)
    return number_back(turn)


def turn_of(size, rings):
    """The turn of so many places with these rings; places that are in none of them stay."""
    check_number(size, 1, MOST_PLACES)
    if not are_rings(rings, size):
        raise InvalidTurn(rings)
    return along(size, rings, 1)


def moved(turn):
    """The ascending tuple of the places from which something goes away."""
    check_turn(turn)
    return tuple([place for place, goal in enumerate(turn) if place != goal])


def turned_by(turn, other):
    """The other turn as it is if all places are renamed by the turn."""
    check_two_turns(turn, other)
    return renamed_by(turn, other)


def commutes(one, other):
    """Whether both orders of two turns make the same."""
    check_two_turns(one, other)
    return goes_with(one, [other])


def _rings_by_length(turn):
    """The list of lists of the rings of a turn that have one length."""
    by_length = {}
    for ring in rings_in(turn):
        by_length.setdefault(len(ring), []).append(ring)
    return list(by_length.values())


def _lots(length, most, number):
    """How many rings of this length, up to `most`, one ring of a root can come apart into.

    The power of a ring with a number comes apart into as many rings as the greatest common
    divisor of its length and the number tells.
    """
    return [many for many in range(1, most + 1) if gcd(many * length, number) == many]


def _count_lacings(length, most, many):
    """In how many ways the first of `most` rings of one length and others make a ring of `many`."""
    ways = 1
    for taken in range(1, many):
        # The next ring to be laced in is any that is left, and begins at any of its places.
        ways = ways * (most - taken) * length
    return ways


def _count_roots(length, most, number):
    """How many turns of the places of `most` rings of one length have these as their power."""
    counts = [1]
    for left in range(1, most + 1):
        counts.append(sum([
            _count_lacings(length, left, many) * counts[left - many]
            for many in _lots(length, left, number)
        ]))
    return counts[most]


def roots(turn, number):
    """How many turns have this turn as their power with a number."""
    check_turn(turn)
    check_number(number, 1, MOST_ROOT)
    found = 1
    for alike in _rings_by_length(turn):
        found = found * _count_roots(len(alike[0]), len(alike), number)
    return found


def _split_into_lots(length, most, number):
    """Any tuple of lots of rings whose sum is `most`, None if there is none."""
    splits = [()]
    for left in range(1, most + 1):
        split = None
        for many in _lots(length, left, number):
            if splits[left - many] is not None:
                split = (*splits[left - many], many)
        splits.append(split)
    return splits[most]


def _laced(lot, number):
    """The ring whose power with the number comes apart into the rings of this lot."""
    ring = [0] * (len(lot) * len(lot[0]))
    for first, piece in enumerate(lot):
        for at, place in enumerate(piece):
            ring[(first + at * number) % len(ring)] = place
    return tuple(ring)


def root(turn, number):
    """Any turn that has this turn as its power with a number, None if there is none."""
    check_turn(turn)
    check_number(number, 1, MOST_ROOT)
    laced = []
    for alike in _rings_by_length(turn):
        split = _split_into_lots(len(alike[0]), len(alike), number)
        if split is None:
            return None
        start = 0
        for many in split:
            laced.append(_laced(alike[start:start + many], number))
            start = start + many
    return along(len(turn), laced, 1)
