"""Kinds of turns: the lengths of their rings, without the places."""

from math import factorial, gcd, lcm

from seatbuttons.checks import check_kind, check_number
from seatbuttons.limits import MOST_PLACES, MOST_TIMES


def _kinds_up_to(size, longest):
    """All kinds of this size with no length above `longest`, descending; () for the size 0."""
    if size == 0:
        return [()]
    found = []
    for first in range(min(size, longest), 0, -1):
        for rest in _kinds_up_to(size - first, first):
            found.append((first, *rest))
    return found


def all_kinds(size):
    """The tuple of all kinds of this size, descending."""
    check_number(size, 1, MOST_PLACES)
    return tuple(_kinds_up_to(size, size))


def how_many_turns(kind):
    """The number of turns of this kind."""
    check_kind(kind)
    # A ring can begin at each of its places, and rings of one length can stand in any order:
    # so many of the orders of all places write the same turn.
    writings = 1
    alike = 0
    for at, length in enumerate(kind):
        alike = alike + 1 if at > 0 and kind[at - 1] == length else 1
        writings = writings * length * alike
    return factorial(sum(kind)) // writings


def first_turn(kind):
    """The turn of this kind whose rings are runs of places that follow one another."""
    check_kind(kind)
    goals = []
    for length in kind:
        start = len(goals)
        goals.extend(list(range(start + 1, start + length)))
        goals.append(start)
    return tuple(goals)


def kind_power(kind, number):
    """The kind of the powers with this number of the turns of this kind."""
    check_kind(kind)
    check_number(number, 0, MOST_TIMES)
    lengths = []
    for length in kind:
        pieces = gcd(length, number)
        lengths.extend([length // pieces] * pieces)
    return tuple(sorted(lengths, reverse=True))


def back_after(kind):
    """The least number from 1 on with which the powers of turns of this kind let all stay."""
    check_kind(kind)
    number = 1
    for length in kind:
        number = lcm(number, length)
    return number
