"""Rows of swaps of neighbours: how they make a turn, in which ways, and which turns are on the way."""

from seatbuttons.checks import check_number, check_turn, check_two_turns, is_integer
from seatbuttons.errors import InvalidIndex, InvalidWay, NotShortest, TooMany
from seatbuttons.limits import MOST_PLACES, MOST_PRESSES
from seatbuttons.unchecked import staying

MOST_COUNTED = 8


def _crossings(turn):
    size = len(turn)
    return [(one, other) for one in range(size) for other in range(one + 1, size) if turn[one] > turn[other]]


def crossings(turn):
    """The ascending tuple of the pairs of places whose things come to stand the other way round."""
    check_turn(turn)
    return tuple(_crossings(turn))


def _with_swap(turn, one, other):
    """The turn whose things of two places, the one ahead of the other, go the one where the other went.

    It is what makes the turn behind the swap of both places.
    """
    return (*turn[:one], turn[other], *turn[one + 1:other], turn[one], *turn[other + 1:])


def _beginnings(turn):
    """The list of the integers with which shortest ways of a turn begin, ascending."""
    return [at for at in range(len(turn) - 1) if turn[at] > turn[at + 1]]


def first_way(turn):
    """The first of the shortest ways of a turn."""
    check_turn(turn)
    way = []
    beginnings = _beginnings(turn)
    while len(beginnings) > 0:
        way.append(beginnings[0])
        turn = _with_swap(turn, beginnings[0], beginnings[0] + 1)
        beginnings = _beginnings(turn)
    return tuple(way)


def _check_way(size, way):
    check_number(size, 1, MOST_PLACES)
    if not isinstance(way, tuple):
        raise InvalidWay(None)
    for index, at in enumerate(way):
        if index >= MOST_PRESSES or not is_integer(at, 0, size - 2):
            raise InvalidWay(index)


def _turn_of_way(size, way):
    turn = staying(size)
    # What the later swaps make comes behind the earlier ones.
    for at in way[::-1]:
        turn = _with_swap(turn, at, at + 1)
    return turn


def turn_of_way(size, way):
    """The turn of so many places that a way makes."""
    _check_way(size, way)
    return _turn_of_way(size, way)


def _count_ways(turn):
    """A dict of how many shortest ways a turn has, and each one that is left behind a beginning."""
    turns = [turn]
    met = {turn}
    at = 0
    while at < len(turns):
        here = turns[at]
        for swap in _beginnings(here):
            rest = _with_swap(here, swap, swap + 1)
            if rest not in met:
                met.add(rest)
                turns.append(rest)
        at = at + 1
    ways = {}
    # Those with fewer crossings stand behind.
    for here in turns[::-1]:
        rests = [_with_swap(here, swap, swap + 1) for swap in _beginnings(here)]
        ways[here] = max(1, sum([ways[rest] for rest in rests]))
    return ways


def _check_few_places(size):
    if size > MOST_COUNTED:
        raise TooMany(MOST_COUNTED)


def how_many_ways(turn):
    """How many shortest ways a turn has."""
    check_turn(turn)
    _check_few_places(len(turn))
    return _count_ways(turn)[turn]


def nth_way(turn, index):
    """The shortest way of a turn with this index."""
    check_turn(turn)
    _check_few_places(len(turn))
    ways = _count_ways(turn)
    if not is_integer(index, 0, ways[turn] - 1):
        raise InvalidIndex(index)
    way = []
    left = index
    for _ in _crossings(turn):
        rests = [(swap, _with_swap(turn, swap, swap + 1)) for swap in _beginnings(turn)]
        at = 0
        while left >= ways[rests[at][1]]:
            left = left - ways[rests[at][1]]
            at = at + 1
        way.append(rests[at][0])
        turn = rests[at][1]
    return tuple(way)


def index_of_way(size, way):
    """The index of a way among the shortest ways of its turn."""
    _check_way(size, way)
    _check_few_places(size)
    turn = _turn_of_way(size, way)
    if len(way) != len(_crossings(turn)):
        raise NotShortest(way)
    ways = _count_ways(turn)
    index = 0
    for at in way:
        for swap in _beginnings(turn):
            if swap < at:
                index = index + ways[_with_swap(turn, swap, swap + 1)]
        turn = _with_swap(turn, at, at + 1)
    return index


def is_below(one, other):
    """Whether some part of a shortest way of the other turn is a way of the one."""
    check_two_turns(one, other)
    # Ehresmann: so it is if the first things, in any order, never go farther with the one.
    for many in range(len(one)):
        if any([near > far for near, far in zip(sorted(one[:many]), sorted(other[:many]))]):
            return False
    return True


def is_beginning(one, other):
    """Whether some shortest way of the other turn begins with one of the one."""
    check_two_turns(one, other)
    # What has crossed in the beginning of a shortest way does not cross again.
    crossed = _crossings(other)
    return all([pair in crossed for pair in _crossings(one)])


def _never_crossing(one, other):
    """A table of the pairs of places whose things cross in no beginning of both turns.

    These are the pairs that do not cross in one of both turns, and the pairs (i, k) where (i, j)
    and (j, k) are such pairs: things that cross have to cross with one of those between them.
    """
    size = len(one)
    table = []
    for low in range(size):
        table.append([low < high and (one[low] < one[high] or other[low] < other[high]) for high in range(size)])
    for between in range(size):
        for low in range(between):
            if table[low][between]:
                table[low] = [kept or more for kept, more in zip(table[low], table[between])]
    return table


def common_beginning(one, other):
    """The beginning of both turns of which each beginning of both is one."""
    check_two_turns(one, other)
    kept = _never_crossing(one, other)
    goals = []
    for place in range(len(one)):
        ahead = len([low for low in range(place) if kept[low][place]])
        goals.append(ahead + len([high for high in range(place + 1, len(one)) if not kept[place][high]]))
    return tuple(goals)


def just_below(turn):
    """The ascending tuple of the turns with one crossing less that are below a turn."""
    check_turn(turn)
    found = []
    for one, other in _crossings(turn):
        # Things that go between both would uncross, too.
        if not any([turn[other] < goal < turn[one] for goal in turn[one + 1:other]]):
            found.append(_with_swap(turn, one, other))
    return tuple(sorted(found))
