"""Riddles: what looks tell of the turn of a hidden button.

A turn fits what was seen exactly if it leads each place to one whose far mark is its mark. So the
places with one mark, a heap, are led to the places with this far mark, in any order.
"""

from itertools import combinations
from math import factorial

from seatbuttons.boards import check_board, with_button
from seatbuttons.checks import LETTERS, check_number, check_place, check_standing, check_turn, is_button_name
from seatbuttons.checks import is_integer, is_standing
from seatbuttons.errors import Impossible, InvalidIndex, InvalidLook, InvalidName, InvalidNumber
from seatbuttons.errors import InvalidStandings, NotARiddle, OtherSize, TooMany
from seatbuttons.limits import MOST_BUTTONS, MOST_LOOKS
from seatbuttons.looks import check_looks, is_look, near_and_far
from seatbuttons.towers import whole_tower
from seatbuttons.unchecked import product_of

SIGNS = LETTERS + "-"
MOST_CHOSEN = 8
MOST_LEFT_OUT = 8
MOST_ASKED = 120


class Riddle:
    """A board, the name of a hidden button, and looks; it never changes."""

    def __init__(self, board, name, looks):
        check_board(board)
        if not is_button_name(name) or name in board.names:
            raise InvalidName(name)
        _check_looks(looks, board, name)
        self._board = board
        self._name = name
        self._looks = looks

    @property
    def board(self):
        """The board, without the hidden button."""
        return self._board

    @property
    def name(self):
        """The name of the hidden button."""
        return self._name

    @property
    def looks(self):
        """The tuple of the looks."""
        return self._looks

    @property
    def size(self):
        """The number of places."""
        return self._board.size

    def with_look(self, look):
        """The riddle with one look more, behind the others."""
        if not is_look(look, self._board, self._name):
            raise InvalidLook(look)
        if len(self._looks) == MOST_LOOKS:
            raise TooMany(MOST_LOOKS)
        return Riddle(self._board, self._name, (*self._looks, look))

    def without_look(self, index):
        """The riddle without the look with this index."""
        if not is_integer(index, 0, len(self._looks) - 1):
            raise InvalidIndex(index)
        return Riddle(self._board, self._name, self._looks[:index] + self._looks[index + 1:])

    def __eq__(self, other):
        return (isinstance(other, Riddle) and self._board == other._board and self._name == other._name
                and self._looks == other._looks)


def _check_looks(given, board, name):
    check_looks(given, lambda look: is_look(look, board, name))


def _check_riddle(given):
    if not isinstance(given, Riddle):
        raise NotARiddle(given)


def _check_riddle_and_turn(riddle, turn):
    _check_riddle(riddle)
    check_turn(turn)
    if len(turn) != riddle.size:
        raise OtherSize()


def _sights(riddle):
    """The list of the pairs of a near and a far standing, one for each look."""
    return [near_and_far(look, riddle.board, riddle.name) for look in riddle.looks]


def _marks(size, sights, end):
    """The list of the marks of all places, as strings: in the near standings (0) or in the far ones (1)."""
    return ["".join([sight[end][place] for sight in sights]) for place in range(size)]


def _both_marks(riddle):
    """The marks and the far marks."""
    sights = _sights(riddle)
    return _marks(riddle.size, sights, 0), _marks(riddle.size, sights, 1)


def _by_mark(marks):
    """The dict of the ascending lists of the places with each mark."""
    found = {}
    for place, mark in enumerate(marks):
        found.setdefault(mark, []).append(place)
    return found


def _count_orders(marks):
    """In how many ways places with these marks can be led to places with the same ones."""
    return product_of([factorial(len(heap)) for heap in _by_mark(marks).values()])


def _count_fits(riddle):
    near, far = _both_marks(riddle)
    return _count_orders(near) if sorted(near) == sorted(far) else 0


def _check_possible(riddle):
    if _count_fits(riddle) == 0:
        raise Impossible()


def count_fits(riddle):
    """How many turns fit."""
    _check_riddle(riddle)
    return _count_fits(riddle)


def fits(riddle, turn):
    """Whether a turn fits."""
    _check_riddle_and_turn(riddle, turn)
    near, far = _both_marks(riddle)
    return near == [far[goal] for goal in turn]


def heaps(riddle):
    """The ascending tuple of the heaps."""
    _check_riddle(riddle)
    return tuple([tuple(heap) for heap in _by_mark(_both_marks(riddle)[0]).values()])


def _goals(riddle):
    """The list of the tuples of the goals of all places of a riddle that some turn fits."""
    near, far = _both_marks(riddle)
    places = _by_mark(far)
    return [tuple(places[mark]) for mark in near]


def goals(riddle, place):
    """The ascending tuple of the goals of a place."""
    _check_riddle(riddle)
    check_place(place, riddle.size)
    _check_possible(riddle)
    return _goals(riddle)[place]


def sure_places(riddle):
    """The ascending tuple of the pairs of a sure place and its goal."""
    _check_riddle(riddle)
    _check_possible(riddle)
    return tuple([(place, some[0]) for place, some in enumerate(_goals(riddle)) if len(some) == 1])


def _fit_at(near, far, number):
    """The turn with this number of those that fit these marks and far marks."""
    left = _by_mark(far)
    many = _count_orders(near)
    turn = []
    for mark in near:
        # Whichever of the goals that are left a place has, as many turns fit.
        many = many // len(left[mark])
        turn.append(left[mark].pop(number // many))
        number = number % many
    return tuple(turn)


def fit_at(riddle, number):
    """The turn with this number of those that fit."""
    _check_riddle(riddle)
    if not is_integer(number, 0, _count_fits(riddle) - 1):
        raise InvalidNumber(number)
    near, far = _both_marks(riddle)
    return _fit_at(near, far, number)


def number_of_fit(riddle, turn):
    """The number of a turn among those that fit, None if it does not fit."""
    if not fits(riddle, turn):
        return None
    near, far = _both_marks(riddle)
    left = _by_mark(far)
    many = _count_orders(near)
    number = 0
    for mark, goal in zip(near, turn):
        many = many // len(left[mark])
        number = number + left[mark].index(goal) * many
        left[mark].remove(goal)
    return number


def _left_by(near, standing):
    """How many turns fit these marks behind a bare look with this standing ahead of it."""
    return _count_orders([mark + sign for mark, sign in zip(near, standing)])


def left_by(riddle, standing):
    """How many turns fit behind a bare look with this standing ahead of it."""
    _check_riddle(riddle)
    check_standing(standing, riddle.size)
    _check_possible(riddle)
    return _left_by(_both_marks(riddle)[0], standing)


def _check_standings(given, size):
    if not isinstance(given, tuple) or len(given) == 0:
        raise InvalidStandings(None)
    for index, standing in enumerate(given):
        if index >= MOST_CHOSEN or not is_standing(standing, size):
            raise InvalidStandings(index)


def best_look(riddle, standings):
    """The first of some standings behind whose bare look fewest turns fit."""
    _check_riddle(riddle)
    _check_standings(standings, riddle.size)
    _check_possible(riddle)
    near, _ = _both_marks(riddle)
    left = [_left_by(near, standing) for standing in standings]
    return standings[left.index(min(left))]


def _count_looks(riddle, signs):
    """How many bare looks tell the places of each heap apart, and no fewer."""
    most = max([len(heap) for heap in heaps(riddle)])
    looks = 0
    apart = 1
    while apart < most:
        looks = looks + 1
        apart = apart * signs
    return looks


def looks_needed(riddle, signs):
    """The least number of bare looks with so many signs behind which surely just one turn fits."""
    _check_riddle(riddle)
    check_number(signs, 2, len(SIGNS))
    _check_possible(riddle)
    return _count_looks(riddle, signs)


def telling_looks(riddle, signs):
    """Any tuple of so few standings such that behind bare looks with them just one turn fits."""
    looks = looks_needed(riddle, signs)
    found = []
    numbers = [0] * riddle.size
    for heap in heaps(riddle):
        for number, place in enumerate(heap):
            numbers[place] = number
    for _ in range(looks):
        # Each look shows one digit of the number that each place has in its heap.
        found.append("".join([SIGNS[number % signs] for number in numbers]))
        numbers = [number // signs for number in numbers]
    return tuple(found)


def _fits_without(size, sights, left_out):
    """Whether some turn fits without the looks with these indexes."""
    kept = [sight for at, sight in enumerate(sights) if at not in left_out]
    return sorted(_marks(size, kept, 0)) == sorted(_marks(size, kept, 1))


def wrong_looks(riddle):
    """The tuple of all least wrong sets of looks, those with fewer ones first."""
    _check_riddle(riddle)
    sights = _sights(riddle)
    if len(sights) > MOST_LEFT_OUT:
        raise TooMany(MOST_LEFT_OUT)
    found = []
    for many in range(len(sights) + 1):
        for some in combinations(range(len(sights)), many):
            has_lesser = any([all([at in some for at in lesser]) for lesser in found])
            if not has_lesser and _fits_without(riddle.size, sights, some):
                found.append(some)
    return tuple(found)


def board_with(riddle, turn):
    """The board with the hidden button, which has this turn."""
    _check_riddle(riddle)
    return with_button(riddle.board, riddle.name, turn)


def sure_inside(riddle, turn):
    """Whether a turn is one of the board's with the hidden button, whichever turn that fits this one has."""
    _check_riddle_and_turn(riddle, turn)
    _check_possible(riddle)
    if len(riddle.board.names) == MOST_BUTTONS:
        raise TooMany(MOST_BUTTONS)
    many = _count_fits(riddle)
    if many > MOST_ASKED:
        raise TooMany(MOST_ASKED)
    near, far = _both_marks(riddle)
    boards = [board_with(riddle, _fit_at(near, far, number)) for number in range(many)]
    return all([whole_tower(board).comes_down(turn) for board in boards])
