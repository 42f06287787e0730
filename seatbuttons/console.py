"""A console that takes lines of text and does with a shelf what they say."""

from seatbuttons.blocks import blocks_with
from seatbuttons.boards import Board, board_in
from seatbuttons.chains import inside, order, within
from seatbuttons.checks import DIGITS, are_signs, is_any_standing, is_integer, is_name, is_turn
from seatbuttons.errors import InvalidCommand, UnknownName
from seatbuttons.likeness import alike
from seatbuttons.limits import MOST_TIMES
from seatbuttons.places import reaches
from seatbuttons.presses import on, pressed, row_in, row_of
from seatbuttons.shelves import Shelf
from seatbuttons.sorts import sorts
from seatbuttons.standings import count_reached, goes, least

MOST_DIGITS = 31
DONE = "ok"
CLAIM = "claim "

# What stands behind the first words of each command: `board` and `standing` are names of such things
# on the shelf, `name` any name, `text` the text of a board, `signs` a standing.
FORMS = {
    "board": ("name", "text"),
    "standing": ("name", "signs"),
    "drop": ("name",),
    "lift": ("number",),
    "undo": (),
    "claim order": ("name", "number"),
    "claim inside": ("name", "turn"),
    "claim outside": ("name", "turn"),
    "claim goes": ("name", "name", "name"),
    "claim never": ("name", "name", "name"),
    "claim within": ("name", "name"),
    "claim one reach": ("name",),
    "order": ("board",),
    "inside": ("board", "turn"),
    "goes": ("board", "standing", "standing"),
    "within": ("board", "board"),
    "alike": ("board", "board"),
    "turn": ("board", "row"),
    "press": ("board", "standing", "row"),
    "least": ("board", "standing"),
    "count": ("board", "standing"),
    "sorts": ("board", "number"),
    "reaches": ("board",),
    "blocks": ("board", "number"),
    "show": ("name",),
    "names": (),
    "claims": (),
}

# These have spaces between their own words, and stand last.
LONG = ("text", "turn", "row")


class Console:
    """A shelf that is led by lines of text."""

    def __init__(self):
        self._shelf = Shelf()

    @property
    def shelf(self):
        """The shelf."""
        return self._shelf

    def run(self, command):
        """Does a command, and tells its answer."""
        head, values = _told_by(command)
        shelf = self._shelf
        if head.startswith(CLAIM):
            shelf.claim((head.removeprefix(CLAIM), *values))
            return DONE
        things = [_meant(shelf, part, value) for part, value in zip(FORMS[head], values)]
        answer = ANSWERS[head]
        return answer(shelf, *things)

    def __eq__(self, other):
        # Not left to the other side, which may say that it equals anything.
        return self is other


def _number_in(word):
    """The number that a word tells, None if it tells none up to the greatest one."""
    if not 1 <= len(word) <= MOST_DIGITS or not are_signs(word, DIGITS):
        return None
    return int(word) if str(int(word)) == word and int(word) <= MOST_TIMES else None


def _turn_in(word):
    turn = tuple([_number_in(place) for place in word.split(" ")])
    return turn if is_turn(turn) else None


def _value_of(part, word):
    """What a word, or several of a long part, tell as this part of a command, None if nothing."""
    if part in ("name", "board", "standing"):
        return word if is_name(word) else None
    if part == "number":
        return _number_in(word)
    if part == "text":
        return board_in(word)
    if part == "turn":
        return _turn_in(word)
    if part == "signs":
        return word if is_any_standing(word) else None
    return None if row_in(word) is None else word


def _values_of(parts, words):
    """The list of what the words behind the first ones of a command tell, None if they are not of the form."""
    if len(parts) > 0 and parts[-1] in LONG:
        ahead = len(parts) - 1
        words = [*words[:ahead], " ".join(words[ahead:])]
    if len(words) != len(parts):
        return None
    values = [_value_of(part, word) for part, word in zip(parts, words)]
    return None if any([value is None for value in values]) else values


def _told_by(command):
    """The first words of a command, and what the others tell."""
    words = command.split(" ") if isinstance(command, str) else []
    for head, parts in FORMS.items():
        many = len(head.split(" "))
        values = _values_of(parts, words[many:]) if " ".join(words[:many]) == head else None
        if values is not None:
            return head, values
    raise InvalidCommand(command)


def _meant(shelf, part, value):
    """The board or standing on the shelf, if the part of a command is its name; otherwise the value itself."""
    if part not in ("board", "standing"):
        return value
    thing = shelf.thing(value)
    if isinstance(thing, Board) != (part == "board"):
        raise UnknownName(value)
    return thing


def _yes_or_no(answer):
    return "yes" if answer else "no"


def _spaced(words):
    return " ".join([str(word) for word in words])


def _lots(lots):
    return " , ".join([_spaced(places) for places in lots])


def _put(shelf, name, thing):
    shelf.put(name, thing)
    return DONE


def _drop(shelf, name):
    shelf.drop(name)
    return DONE


def _lift(shelf, index):
    shelf.lift(index)
    return DONE


def _undo(shelf):
    shelf.undo()
    return DONE


def _order(_, board):
    return str(order(board))


def _inside(_, board, turn):
    return _yes_or_no(inside(board, turn))


def _goes(_, board, one, other):
    return _yes_or_no(goes(board, one, other))


def _within(_, one, other):
    return _yes_or_no(within(one, other))


def _alike(_, one, other):
    return _yes_or_no(alike(one, other))


def _turn(_, board, text):
    return _spaced(pressed(board, row_of(board, text)))


def _press(_, board, standing, text):
    return on(board, row_of(board, text), standing)


def _least(_, board, standing):
    return least(board, standing)


def _count(_, board, standing):
    return str(count_reached(board, standing))


def _sorts(_, board, signs):
    return str(sorts(board, signs))


def _reaches(_, board):
    return _lots(reaches(board))


def _blocks(_, board, place):
    return _lots(blocks_with(board, place))


def _show(shelf, name):
    thing = shelf.thing(name)
    return thing.text if isinstance(thing, Board) else thing


def _names(shelf):
    return _spaced(shelf.names)


def _claims(shelf):
    return str(len(shelf.claims))


ANSWERS = {
    "board": _put,
    "standing": _put,
    "drop": _drop,
    "lift": _lift,
    "undo": _undo,
    "order": _order,
    "inside": _inside,
    "goes": _goes,
    "within": _within,
    "alike": _alike,
    "turn": _turn,
    "press": _press,
    "least": _least,
    "count": _count,
    "sorts": _sorts,
    "reaches": _reaches,
    "blocks": _blocks,
    "show": _show,
    "names": _names,
    "claims": _claims,
}
