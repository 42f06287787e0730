"""Shelves: boards and standings under names, and claims about them that always hold."""

from seatbuttons.boards import Board
from seatbuttons.chains import inside, order, within
from seatbuttons.checks import is_any_standing, is_integer, is_name, is_turn
from seatbuttons.errors import Broken, InUse, InvalidClaim, InvalidIndex, InvalidName, NotAThing, NothingToUndo
from seatbuttons.errors import UnknownName
from seatbuttons.limits import MOST_TIMES
from seatbuttons.places import reaches
from seatbuttons.standings import goes
from seatbuttons.trials import Trial

MOST_REACHING = 8

# What stands behind the word of a claim: names of boards and of standings, numbers, turns.
PARTS = {
    "order": ("board", "number"),
    "inside": ("board", "turn"),
    "outside": ("board", "turn"),
    "goes": ("board", "standing", "standing"),
    "never": ("board", "standing", "standing"),
    "within": ("board", "board"),
    "one reach": ("board",),
}


class Shelved:
    """The things by their names, the claims, what was there ahead of it, and how many changes led here."""

    def __init__(self, things, kept, before):
        self.things = things
        self.kept = kept
        self.before = before
        self.many = 0 if before is None else before.many + 1


class Shelf:
    """Boards and standings under names, and claims about them."""

    def __init__(self):
        self.state = Shelved({}, (), None)

    @property
    def names(self):
        """The ascending tuple of the names."""
        return tuple(sorted(self.state.things))

    @property
    def claims(self):
        """The tuple of the claims."""
        return self.state.kept

    @property
    def changes(self):
        """How many changes can be taken back."""
        return self.state.many

    def __contains__(self, x):
        return isinstance(x, str) and x in self.state.things

    def put(self, name, thing):
        """Puts a board or a standing under a name."""
        if not is_name(name):
            raise InvalidName(name)
        if not isinstance(thing, Board) and not is_any_standing(thing):
            raise NotAThing(thing)
        things, claims = self.state.things, self.state.kept
        if name in things and _sort_of(things[name]) != _sort_of(thing):
            _check_unused(claims, name)
        things = {**things, name: thing}
        for index, claim in enumerate(claims):
            # The others are as they were: they held, and they hold.
            if name in _names_in(claim):
                _check_holding(things, index, claim)
        self.state = Shelved(things, claims, self.state)

    def thing(self, name):
        """The board or the standing under a name."""
        _check_there(self.state.things, name)
        return self.state.things[name]

    def drop(self, name):
        """Takes a thing away that no claim names."""
        things, claims = self.state.things, self.state.kept
        _check_there(things, name)
        _check_unused(claims, name)
        left = {other: thing for other, thing in things.items() if other != name}
        self.state = Shelved(left, claims, self.state)

    def claim(self, claim):
        """Makes one claim more, behind the others."""
        things, claims = self.state.things, self.state.kept
        _check_claim(claim)
        _check_names(things, claim)
        _check_holding(things, len(claims), claim)
        self.state = Shelved(things, (*claims, claim), self.state)

    def lift(self, index):
        """Takes a claim away."""
        things, claims = self.state.things, self.state.kept
        if not is_integer(index, 0, len(claims) - 1):
            raise InvalidIndex(index)
        self.state = Shelved(things, claims[:index] + claims[index + 1:], self.state)

    def undo(self):
        """Takes back the last change that has not been taken back."""
        if self.state.before is None:
            raise NothingToUndo()
        self.state = self.state.before

    def trial(self):
        """For a `with` statement: if its rows end with an exception, the shelf is as it was ahead of them."""
        return Trial(self, True)

    def tried(self, action):
        """What an action returns that is called with the shelf within a trial."""
        with self.trial() as shelf:
            return action(shelf)

    def __eq__(self, other):
        # Not left to the other side, which may say that it equals anything.
        return self is other


def _sort_of(thing):
    return "board" if isinstance(thing, Board) else "standing"


def _check_there(things, name):
    if not isinstance(name, str) or name not in things:
        raise UnknownName(name)


def _check_claim(given):
    """Raises an error if it is no claim, whatever it names."""
    if not isinstance(given, tuple) or len(given) == 0 or not isinstance(given[0], str):
        raise InvalidClaim(given)
    if given[0] not in PARTS or len(given) != 1 + len(PARTS[given[0]]):
        raise InvalidClaim(given)
    for part, told in zip(PARTS[given[0]], given[1:]):
        if part == "number" and not is_integer(told, 0, MOST_TIMES) or part == "turn" and not is_turn(told):
            raise InvalidClaim(given)


def _named_in(claim):
    """The list of the pairs of a sort of things and what stands for the name of one in a claim."""
    return [(part, told) for part, told in zip(PARTS[claim[0]], claim[1:]) if part in ("board", "standing")]


def _names_in(claim):
    return [name for _, name in _named_in(claim)]


def _check_names(things, claim):
    for part, name in _named_in(claim):
        _check_there(things, name)
        if _sort_of(things[name]) != part:
            raise UnknownName(name)


def _check_unused(claims, name):
    for index, claim in enumerate(claims):
        if name in _names_in(claim):
            raise InUse(index)


def _reaches(board, one, other):
    """Whether the other standing is reached from the one, None if a claim of this cannot hold."""
    if board.size > MOST_REACHING or len(one) != board.size or len(other) != board.size:
        return None
    return goes(board, one, other)


def _shown(things, claim):
    """What is so, in place of what the claim says."""
    word = claim[0]
    board = things[claim[1]]
    if word == "order":
        return order(board)
    if word == "one reach":
        return len(reaches(board))
    if word == "within":
        other = things[claim[2]]
        return within(board, other) if board.size == other.size else None
    if word in ("inside", "outside"):
        return inside(board, claim[2]) if board.size == len(claim[2]) else None
    return _reaches(board, things[claim[2]], things[claim[3]])


def _holds(claim, shown):
    """Whether a claim holds if this is so."""
    if claim[0] == "order":
        return shown == claim[2]
    if claim[0] == "one reach":
        return shown == 1
    return shown is False if claim[0] in ("outside", "never") else shown is True


def _check_holding(things, index, claim):
    shown = _shown(things, claim)
    if not _holds(claim, shown):
        raise Broken(index, shown)
