"""Which kinds of turns make one ring, the one then the other, in how many ways, and how.

For two kinds of n places with k and m rings, n + 1 - k - m tells nearly all. If it is odd, no turns
of these kinds make one ring; if it is below 0, their rings are too many to hang together. Otherwise
half of it is the number of handles, and some turns of these kinds make one ring.
"""

from math import factorial, gcd

from seatbuttons.checks import check_kind, check_turn, check_two_kinds
from seatbuttons.errors import Barred, OtherSize
from seatbuttons.kinds import how_many_turns
from seatbuttons.turns import kind_of
from seatbuttons.unchecked import along, one_then, renamed_by, rings_in


def _room(one, other):
    return sum(one) + 1 - len(one) - len(other)


def _bar(one, other):
    """What bars two kinds of one size, None if nothing does."""
    room = _room(one, other)
    if room % 2 == 1:
        return "sign"
    return "rings" if room < 0 else None


def _check_unbarred(one, other):
    by = _bar(one, other)
    if by is not None:
        raise Barred(by)


def can(one, other):
    """Whether two turns of these kinds make one ring."""
    return bars(one, other) is None


def bars(one, other):
    """What bars turns of these kinds from making one ring, None if nothing does."""
    check_two_kinds(one, other)
    return _bar(one, other)


def _split(kinds):
    """Splits rings of two kinds, lists, in three until no handle is left; tells what was split.

    What is told are triples: which of the kinds, at which index the ring stands, and where the
    first of the two new rings does. While a handle is left, some ring has three places or more:
    with two at most there would be at least n / 2 rings in each of the kinds.
    """
    splits = []
    while _room(kinds[0], kinds[1]) > 0:
        which = 0 if max(kinds[0]) >= 3 else 1
        at = kinds[which].index(max(kinds[which]))
        splits.append((which, at, len(kinds[which])))
        kinds[which][at] = kinds[which][at] - 2
        kinds[which].extend([1, 1])
    return splits


def _hang(kinds):
    """Rings of two kinds without handles that hang together as a tree: a pair of lists of rings.

    Each place is in one ring of each of both. Where some places are left, some ring lacks just
    one; it hangs on the ring of the other kind that lacks most, so that none is left over.
    """
    lacking = [list(kinds[0]), list(kinds[1])]
    hung = ([[] for _ in kinds[0]], [[] for _ in kinds[1]])
    for place in range(sum(kinds[0])):
        leaf = 0 if 1 in lacking[0] else 1
        for which in (0, 1):
            at = lacking[which].index(1 if which == leaf else max(lacking[which]))
            lacking[which][at] = lacking[which][at] - 1
            hung[which][at].append(place)
    return hung


def _with_three(pair, which, three):
    """The pair with three places turned about, ahead of the first turn or behind the second one."""
    ring = along(len(pair[0]), [three], 1)
    if which == 0:
        return one_then(ring, pair[0]), pair[1]
    return pair[0], one_then(pair[1], ring)


def _put_together(pair, which, places):
    """The pair with the three rings that these places are in, of one of its turns, put together.

    Turning the three places about does so whichever way they are turned; with one of both ways
    what the pair makes, one ring, remains one.
    """
    one, other = _with_three(pair, which, places)
    if len(rings_in(one_then(one, other))) == 1:
        return one, other
    return _with_three(pair, which, places[::-1])


def _make(one, other):
    """Any pair of turns of these kinds, which nothing bars, that make one ring."""
    kinds = [list(one), list(other)]
    splits = _split(kinds)
    hung = _hang(kinds)
    # Rings that hang together as a tree make one ring, in whatever order their places stand.
    size = sum(one)
    pair = (along(size, hung[0], 1), along(size, hung[1], 1))
    for which, at, added in splits:
        places = [hung[which][at][0], hung[which][added][0], hung[which][added + 1][0]]
        pair = _put_together(pair, which, places)
    return pair


def make(one, other):
    """Any pair of turns of these kinds that make one ring."""
    check_two_kinds(one, other)
    _check_unbarred(one, other)
    return _make(one, other)


def _places_by_rings(turn):
    """The list of all places, ring by ring, the shortest rings first."""
    places = []
    for ring in sorted(list(rings_in(turn)), key=len):
        places.extend(ring)
    return places


def complete(turn, kind):
    """Any turn of this kind such that the turn, then it, is one ring."""
    check_turn(turn)
    check_kind(kind)
    if len(turn) != sum(kind):
        raise OtherSize()
    _check_unbarred(kind_of(turn), kind)
    alike, found = _make(kind_of(turn), kind)
    renaming = [0] * len(turn)
    for place, goal in zip(_places_by_rings(alike), _places_by_rings(turn)):
        renaming[place] = goal
    return renamed_by(renaming, found)


def fewest_rings(one, other):
    """The least number of rings that two turns of these kinds make."""
    check_two_kinds(one, other)
    # A lot of places that hang together has at most one place less than rings of both kinds, so
    # there are at least so many lots; each makes a ring at least, and two if the sign bars one.
    rings = len(one) + len(other) - sum(one)
    if rings >= 1:
        return rings
    return 1 if rings % 2 == 1 else 2


def _hooks(kind):
    """The values of a kind at the hooks, the characters at which one ring is not worth 0.

    They stand in the product of 1 - (-q) ** length over all lengths, divided by 1 + q, at q ** 0,
    q ** 1 and so on.
    """
    factors = [1]
    for length in kind:
        longer = factors + [0] * length
        sign = 1 if length % 2 == 1 else -1
        for at, factor in enumerate(factors):
            longer[at + length] = longer[at + length] + sign * factor
        factors = longer
    values = [1]
    for factor in factors[1:-1]:
        values.append(factor - values[-1])
    return values


def _count_joins(one, other):
    """In how many ways turns of these kinds make a told ring of all places.

    Frobenius: the sum, over all hooks, of the products of the values of both kinds and of one
    ring, 1 and -1 by turns, each divided by the hook's value for the turn with which all stay,
    that is as many as there are choices of so many out of all places but one.
    """
    last = sum(one) - 1
    total = 0
    for at, values in enumerate(zip(_hooks(one), _hooks(other))):
        sign = 1 if at % 2 == 0 else -1
        total = total + sign * values[0] * values[1] * factorial(at) * factorial(last - at)
    pairs = how_many_turns(one) * how_many_turns(other)
    return pairs * total // (factorial(last) * factorial(last + 1))


def how_many_joins(one, other):
    """How many pairs of turns of these kinds make one told ring of all places."""
    check_two_kinds(one, other)
    return _count_joins(one, other)


def share(one, other):
    """Which part of all pairs of turns of these kinds make any one ring, as a fraction."""
    check_two_kinds(one, other)
    top = _count_joins(one, other) * factorial(sum(one) - 1)
    bottom = how_many_turns(one) * how_many_turns(other)
    common = gcd(top, bottom)
    return top // common, bottom // common


def plane_joins(one, other):
    """How many pairs make one told ring, for two kinds without handles."""
    check_two_kinds(one, other)
    _check_unbarred(one, other)
    if _room(one, other) > 0:
        raise Barred("handles")
    return _count_joins(one, other)
