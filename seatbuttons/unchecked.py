"""What is often reckoned with turns, for those that are known to be turns of as many places."""

from math import lcm


def staying(size):
    """The turn of so many places with which all stay."""
    return tuple(range(size))


def one_then(one, other):
    """The turn that is the one, then the other."""
    return tuple([other[place] for place in one])


def led_back(turn):
    """The turn that leads back from a turn."""
    places = [0] * len(turn)
    for place, goal in enumerate(turn):
        places[goal] = place
    return tuple(places)


def renamed_by(turn, other):
    """The other turn as it is if all places are renamed by the turn."""
    return one_then(one_then(led_back(turn), other), turn)


def rings_in(turn):
    """The tuple of the rings of a turn, ascending."""
    met = [False] * len(turn)
    found = []
    for start in range(len(turn)):
        ring = []
        place = start
        while not met[place]:
            met[place] = True
            ring.append(place)
            place = turn[place]
        if len(ring) > 0:
            found.append(tuple(ring))
    return tuple(found)


def along(size, some_rings, steps):
    """The turn that leads each place so many steps along its ring; the other places stay."""
    goals = list(range(size))
    for ring in some_rings:
        for at, place in enumerate(ring):
            goals[place] = ring[(at + steps) % len(ring)]
    return tuple(goals)


def raised_to(turn, number):
    """The power of a turn with a number."""
    return along(len(turn), rings_in(turn), number)


def number_back(turn):
    """The least number from 1 on with which the power of a turn lets all stay."""
    number = 1
    for ring in rings_in(turn):
        number = lcm(number, len(ring))
    return number
