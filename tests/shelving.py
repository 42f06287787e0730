"""What a shelf does, by the words of the document, going through all turns and standings of a few places."""

from seatbuttons.boards import Board

from tests.groups import turns_of
from tests.walks import behind_turn

# For each word of a claim what its other elements are.
WORDS = {"order": "AN", "inside": "AT", "outside": "AT", "goes": "ASS", "never": "ASS", "within": "AA",
         "one reach": "A"}


class Refused(Exception):
    """What a shelf raises: the name of the error, and what it keeps."""

    def __init__(self, *told):
        super().__init__(*told)
        self.told = told


def named_in(claim):
    """The names in a claim, with the sort of things that they stand for."""
    return [(part, name) for part, name in zip(WORDS[claim[0]], claim[1:]) if part in "AS"]


def is_board(thing):
    return isinstance(thing, Board)


KEPT = {}


def turns(board):
    if board.text not in KEPT:
        KEPT[board.text] = set(turns_of(board))
    return KEPT[board.text]


def shown(things, claim):
    """What is so, in place of what a claim says."""
    word, board = claim[0], things[claim[1]]
    if word == "order":
        return len(turns(board))
    if word in ("inside", "outside"):
        return claim[2] in turns(board) if len(claim[2]) == board.size else None
    if word == "within":
        other = things[claim[2]]
        return turns(board) <= turns(other) if board.size == other.size else None
    if word == "one reach":
        return len({frozenset(turn[place] for turn in turns(board)) for place in range(board.size)})
    one, other = things[claim[2]], things[claim[3]]
    if board.size > 8 or not len(one) == len(other) == board.size:
        return None
    return any(behind_turn(one, turn) == other for turn in turns(board))


def holds(claim, so):
    """Whether a claim holds if this is so."""
    wanted = {"order": claim[-1], "inside": True, "outside": False, "goes": True, "never": False, "within": True,
              "one reach": 1}
    return so is not None and so == wanted[claim[0]]


class Model:
    """A shelf whose arguments are right but for names that are none of it, and claims that do not hold."""

    def __init__(self):
        self.things = {}
        self.claims = []
        self.past = []

    def change(self, things, claims):
        """Asks all claims, and makes the change."""
        for index, claim in enumerate(claims):
            so = shown(things, claim)
            if not holds(claim, so):
                raise Refused("Broken", index, so)
        self.past.append((self.things, self.claims))
        self.things, self.claims = things, claims

    def check_unused(self, name):
        for index, claim in enumerate(self.claims):
            if name in [told for _, told in named_in(claim)]:
                raise Refused("InUse", index)

    def put(self, name, thing):
        if name in self.things and is_board(self.things[name]) != is_board(thing):
            self.check_unused(name)
        self.change({**self.things, name: thing}, self.claims)

    def drop(self, name):
        if name not in self.things:
            raise Refused("UnknownName", name)
        self.check_unused(name)
        self.change({other: thing for other, thing in self.things.items() if other != name}, self.claims)

    def claim(self, claim):
        for part, name in named_in(claim):
            if name not in self.things or is_board(self.things[name]) != (part == "A"):
                raise Refused("UnknownName", name)
        self.change(self.things, self.claims + [claim])

    def lift(self, index):
        if index >= len(self.claims):
            raise Refused("InvalidIndex", index)
        self.change(self.things, self.claims[:index] + self.claims[index + 1:])

    def undo(self):
        if not self.past:
            raise Refused("NothingToUndo")
        self.things, self.claims = self.past.pop()

    def told(self):
        return tuple(sorted(self.things)), tuple(self.claims), len(self.past)


def told_by(shelf):
    return shelf.names, shelf.claims, shelf.changes
