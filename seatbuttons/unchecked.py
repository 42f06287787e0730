"""What is often reckoned with turns, for those that are known to be turns of as many places."""

from math import lcm


def staying(size):
    """The turn of so many places with which all stay."""
    return tuple(range(size))


def one_then(one, other):
    """The turn that is the one, then the other; for any places where the other leads these."""
    return tuple([other[place] for place in one])


def led_back(turn):
    """The turn that leads back from a turn."""
    places = [0] * len(turn)
    for place, goal in enumerate(turn):
        places[goal] = place
    return tuple(places)


def renamed_by(turn, other):
    """The other turn as it is if all places are renamed by the turn."""
    return one_then(one_then(led_back(turn), other), turn)


def rings_in(turn):
    """The tuple of the rings of a turn, ascending."""
    met = [False] * len(turn)
    found = []
    for start in range(len(turn)):
        ring = []
        place = start
        while not met[place]:
            met[place] = True
            ring.append(place)
            place = turn[place]
        if len(ring) > 0:
            found.append(tuple(ring))
    return tuple(found)


def button_turns(board):
    """The list of the turns of a board's buttons."""
    return [turn for _, turn in board.buttons]


def goes_with(turn, turns):
    """Whether a turn and each of these make the same in both orders."""
    return all([one_then(turn, other) == one_then(other, turn) for other in turns])


def reach_of(place, turns):
    """The ascending tuple of all places to which these turns lead a place."""
    met = {place}
    waiting = [place]
    while len(waiting) > 0:
        here = waiting.pop()
        for turn in turns:
            if turn[here] not in met:
                met.add(turn[here])
                waiting.append(turn[here])
    return tuple(sorted(met))


def reaches_of(size, turns):
    """The ascending tuple of the reaches of so many places under these turns."""
    reaches = [reach_of(place, turns) for place in range(size)]
    return tuple([reach for place, reach in enumerate(reaches) if reach[0] == place])


def along(size, some_rings, steps):
    """The turn that leads each place so many steps along its ring; the other places stay."""
    goals = list(range(size))
    for ring in some_rings:
        for at, place in enumerate(ring):
            goals[place] = ring[(at + steps) % len(ring)]
    return tuple(goals)


def raised_to(turn, number):
    """The power of a turn with a number."""
    return along(len(turn), rings_in(turn), number)


def number_back(turn):
    """The least number from 1 on with which the power of a turn lets all stay."""
    number = 1
    for ring in rings_in(turn):
        number = lcm(number, len(ring))
    return number


def things_of(standing, places):
    """The things that stand on these places, one for each place, as a standing."""
    return "".join([standing[place] for place in places])


def kind_in(turn):
    """The kind of a turn."""
    return tuple(sorted([len(ring) for ring in rings_in(turn)], reverse=True))


def is_even_turn(turn):
    """Whether a turn is even."""
    return (len(turn) - len(rings_in(turn))) % 2 == 0


def product_of(numbers):
    found = 1
    for number in numbers:
        found = found * number
    return found
