"""Questions about arguments that may be anything, and checks that raise the error which is told.

Every part of a value is asked for its kind before it is compared or put into a set: parts may be
values that cannot be compared or put into sets.
"""

from seatbuttons.errors import InvalidKind, InvalidNumber, InvalidPlace, InvalidPlaces, InvalidStanding
from seatbuttons.errors import InvalidTurn, OtherSize
from seatbuttons.limits import MOST_PLACES

LETTERS = "abcdefghijklmnopqrstuvwxyz"
DIGITS = "0123456789"
MOST_LETTERS = 8
MOST_LED = 3


def is_integer(given, least, most):
    """Whether it is an integer from `least` to `most`; True and False are none."""
    return isinstance(given, int) and not isinstance(given, bool) and least <= given <= most


def are_unlike_places(places, size):
    """Whether these are all places of a board of this size, none of them twice."""
    seen = set()
    for place in places:
        if not is_integer(place, 0, size - 1) or place in seen:
            return False
        seen.add(place)
    return True


def is_turn(given):
    """Whether it is a turn of any number of places."""
    if not isinstance(given, tuple) or not 1 <= len(given) <= MOST_PLACES:
        return False
    return are_unlike_places(given, len(given))


def are_rings(given, size):
    """Whether it is a tuple of tuples, none of them empty, of places, none of them twice."""
    if not isinstance(given, tuple):
        return False
    places = []
    for ring in given:
        if not isinstance(ring, tuple) or len(ring) == 0:
            return False
        places.extend(ring)
    return are_unlike_places(places, size)


def is_kind(given):
    """Whether it is a kind of any size."""
    if not isinstance(given, tuple) or not 1 <= len(given) <= MOST_PLACES:
        return False
    most = MOST_PLACES
    for length in given:
        if not is_integer(length, 1, most):
            return False
        most = length
    return sum(given) <= MOST_PLACES


def is_pair(given):
    return isinstance(given, tuple) and len(given) == 2


def are_signs(given, signs):
    """Whether it is a string of these signs alone."""
    return isinstance(given, str) and all([sign in signs for sign in given])


def is_name(given):
    """Whether it is a name, of whatever has names; `tie` is one."""
    return are_signs(given, LETTERS) and 1 <= len(given) <= MOST_LETTERS


def is_button_name(given):
    """Whether it is a name that a button may have."""
    return is_name(given) and given != "tie"


def is_standing(given, size):
    """Whether it is a standing of so many places."""
    return are_signs(given, LETTERS + "-") and len(given) == size


def is_any_standing(given):
    """Whether it is a standing of any number of places."""
    return are_signs(given, LETTERS + "-") and 1 <= len(given) <= MOST_PLACES


def are_ascending_places(given, size):
    """Whether it is an ascending tuple of places, `()` too."""
    if not isinstance(given, tuple):
        return False
    least = 0
    for place in given:
        if not is_integer(place, least, size - 1):
            return False
        least = place + 1
    return True


def check_number(given, least, most):
    if not is_integer(given, least, most):
        raise InvalidNumber(given)


def check_turn(given):
    if not is_turn(given):
        raise InvalidTurn(given)


def check_two_turns(one, other):
    check_turn(one)
    check_turn(other)
    if len(one) != len(other):
        raise OtherSize()


def check_kind(given):
    if not is_kind(given):
        raise InvalidKind(given)


def check_two_kinds(one, other):
    check_kind(one)
    check_kind(other)
    if sum(one) != sum(other):
        raise OtherSize()


def check_place(given, size):
    if not is_integer(given, 0, size - 1):
        raise InvalidPlace(given)


def check_places(given, size):
    """Raises an error if it is no tuple of unlike places."""
    if not isinstance(given, tuple):
        raise InvalidPlaces(None)
    seen = set()
    for index, place in enumerate(given):
        if not is_integer(place, 0, size - 1) or place in seen:
            raise InvalidPlaces(index)
        seen.add(place)


def check_few_places(given, size):
    """Raises an error if it is no tuple of one to three unlike places."""
    if not isinstance(given, tuple) or len(given) == 0:
        raise InvalidPlaces(None)
    check_places(given[:MOST_LED], size)
    if len(given) > MOST_LED:
        raise InvalidPlaces(MOST_LED)


def check_goals(given, size, many):
    """Raises an error if it is no tuple of so many unlike places."""
    if not isinstance(given, tuple) or len(given) != many:
        raise InvalidPlaces(None)
    check_places(given, size)


def check_standing(given, size):
    if not is_standing(given, size):
        raise InvalidStanding(given)


def check_any_standing(given):
    """Raises an error if it is a standing of no number of places."""
    if not is_any_standing(given):
        raise InvalidStanding(given)


def check_standing_with_room(given, size):
    """Raises an error if it is no standing with just one empty place."""
    check_standing(given, size)
    if given.count("-") != 1:
        raise InvalidStanding(given)
