"""What several tests need: wrong values, all turns of a few places, and a check of raised errors."""

import inspect
import itertools
import unittest

from seatbuttons.boards import Board


class Stubborn:
    """An object that can neither be compared nor put into a set."""

    __hash__ = None

    def __eq__(self, other):
        raise AssertionError("was compared")

    def __lt__(self, other):
        raise AssertionError("was compared")

    def __gt__(self, other):
        raise AssertionError("was compared")


class Agreeing:
    """An object that says that it equals everything and can be used as an index."""

    def __eq__(self, other):
        return True

    def __hash__(self):
        return 0

    def __index__(self):
        return 0


NO_VALUES = [None, True, False, "", "a", "0", b"", b"a", [], {}, set(), frozenset(), object, object(), len]
NO_VALUES += [Stubborn(), Agreeing(), ..., range(3), iter(())]

# None of these is a place of any board.
NO_PLACES = NO_VALUES + [(), (0,), ((0,),), -1, 24, 25, 10 ** 30, -10 ** 30]

NO_INTEGERS = NO_VALUES + [(), (1,), ((1,),)]


def nested(depth):
    """Tuples nested in tuples."""
    value = ()
    for _ in range(depth - 1):
        value = (value,)
    return value


def no_boards():
    """Values that are no boards; texts and parts of boards among them."""
    wrong = NO_VALUES + [0, 1, (), Board, "3", "3 ; a 1 0 2", (3, (), ()), [Board(3, (), ())], (Board(1, (), ()),)]
    return wrong + [nested(20), {"size": 3}, Board(3, (), ()).text, Board(3, (), ()).turn]


def wrong_turns():
    """Values that are no turns of any number of places."""
    wrong = NO_VALUES + [0, 1, -1, 10 ** 30, ()]
    wrong += [[0], [1, 0], {0: 0}, {0}, "0", "10", b"\x00", range(2)]
    wrong += [(False,), (True, 0), (1, False), (0, True), (0, 1, True), (2, True, 0)]
    wrong += [(1,), (-1,), (0, 0), (1, 1), (0, 2), (1, 2), (-1, 0), (0, 1, 3), (2, 1, 2), (0, 1, -1)]
    wrong += [(0, 10 ** 30), (0, -10 ** 30), ("0",), ("0", "1"), (0, None), (None, 0), (0, [1]), (0, {})]
    wrong += [((0,),), ((0, 1),), ((0,), (1,)), (0, (1,)), (1, ()), nested(20), (0, nested(19))]
    wrong += [tuple(range(25)), tuple(range(26)), tuple(range(24)) + (0,), tuple(range(1000))]
    wrong += [tuple(range(23)) + (24,), tuple(range(1, 25)), tuple(range(23)) + (0,)]
    wrong += [(value,) for value in NO_PLACES]
    wrong += [(1, value) for value in NO_PLACES]
    wrong += [(value, 1, 2) for value in NO_PLACES]
    return wrong


def wrong_kinds():
    """Values that are no kinds of any size."""
    wrong = NO_VALUES + [0, 1, -1, 10 ** 30, ()]
    wrong += [[1], [2, 1], {2: 1}, {1}, "1", "21", b"\x01", range(1, 2)]
    wrong += [(True,), (False,), (2, True), (True, 1), (1, True), (2, 1, True)]
    wrong += [(0,), (-1,), (1, 0), (2, -1), (3, 1, 0), (1, 2), (2, 3), (3, 1, 2), (1, 1, 2)]
    wrong += [(25,), (24, 1), (12, 12, 1), (13, 12), (1,) * 25, (2,) * 13, (3,) * 9, (1,) * 1000]
    wrong += [(10 ** 30,), (10 ** 30, 1), (1, -10 ** 30), ("1",), (1, None), (None, 1), (2, [1]), (2, {})]
    wrong += [((1,),), ((2, 1),), (2, (1,)), (1, ()), nested(20), (1, nested(19))]
    wrong += [(value,) for value in NO_VALUES]
    wrong += [(1, value) for value in NO_PLACES]
    wrong += [(value, 1) for value in NO_VALUES]
    return wrong


def wrong_standings(size):
    """Values that are no standings of so many places, four at least."""
    good = "aab-" + "a" * (size - 4)
    wrong = NO_VALUES + [0, "", good[1:], good + "a", "a" * 24 if size < 24 else "a" * 25, good[:3]]
    wrong += [good[1:] + sign for sign in " 1A;\n_>~{`@[0.,\\"]
    wrong += [good.upper(), good + "\n", good[1:] + "aa", tuple(good), list(good), good.encode(), (good,), nested(20)]
    return wrong + [{good: 1}, "tie ", " " * size, "1" * size]


def all_turns(size):
    return list(itertools.permutations(range(size)))


def staying(size):
    return tuple(range(size))


def one_then(one, other):
    """The one turn then the other, as the document words it."""
    return tuple(other[one[place]] for place in range(len(one)))


def led_back(turn):
    """The turn that leads back from a turn, as the document words it."""
    return tuple(turn.index(place) for place in range(len(turn)))


def times_over(turn, number):
    """So many of the turn, one then the other; the number is 0 or above."""
    made = staying(len(turn))
    for _ in range(number):
        made = one_then(made, turn)
    return made


def short(*told):
    """What is told of a failed test, which may be very long."""
    return repr(told)[:500]


class Telling(unittest.TestCase):
    """Tests that ask for errors and for the names of arguments."""

    def raised(self, error, call, *arguments, **named):
        """The error of just this class that the call raises."""
        with self.assertRaises(error) as caught:
            call(*arguments, **named)
        self.assertIs(type(caught.exception), error, short(call, arguments, named))
        return caught.exception

    def tells_given(self, error, given, call, *arguments, **named):
        """The call raises this error, with the very object that was passed."""
        told = self.raised(error, call, *arguments, **named)
        self.assertIs(told.given, given)

    def equals_itself_alone(self, thing, *others):
        """The object equals itself, and neither others nor what says that it equals everything."""
        self.assertIs(thing == thing, True)
        self.assertIs(thing != thing, False)
        for other in [*NO_VALUES, 0, (), *others]:
            self.assertIs(thing == other, False)
            self.assertIs(thing != other, True)
        for other in others:
            self.assertIs(other == thing, False)
            self.assertIs(other != thing, True)

    def takes(self, call, *names):
        """The arguments have these names, none has a default value, all go by position or name."""
        parameters = list(inspect.signature(call).parameters.values())
        self.assertEqual([parameter.name for parameter in parameters], list(names), call)
        for parameter in parameters:
            self.assertEqual(parameter.kind, parameter.POSITIONAL_OR_KEYWORD)
            self.assertIs(parameter.default, parameter.empty)

    def gives(self, result, call, *arguments):
        """The call gives this, by position and by name, with values of the very same sort."""
        names = list(inspect.signature(call).parameters)
        before = repr(arguments)
        by_position = call(*arguments)
        by_name = call(**dict(reversed(list(zip(names, arguments)))))
        self.assertEqual(repr(arguments), before, call)
        self.assertEqual(repr(by_position), repr(result), short(call, arguments))
        self.assertEqual(repr(by_name), repr(result), short(call, arguments))

    def tells(self, expected, call, *arguments):
        """The call raises an error just like this one, by position and by name."""
        names = list(inspect.signature(call).parameters)
        for positions, named in ((arguments, {}), ((), dict(zip(names, arguments)))):
            told = self.raised(type(expected), call, *positions, **named)
            self.assertEqual(list(vars(told)), list(vars(expected)), short(call, arguments))
            for name, value in vars(expected).items():
                if isinstance(value, int) and not isinstance(value, bool):
                    self.assertEqual(repr(vars(told)[name]), repr(value), short(call, arguments))
                else:
                    self.assertIs(vars(told)[name], value, short(call, arguments))

    def tells_in_order(self, call, good, *wrong):
        """Of several wrong arguments at once the first one is told, by itself and beside the others.

        What is wrong are triples (index of the argument, value, error), in the order of telling.
        """
        for many in range(1, len(wrong) + 1):
            for some in itertools.combinations(wrong, many):
                arguments = list(good)
                for index, value, _ in some[::-1]:
                    arguments[index] = value
                self.tells(some[0][2], call, *arguments)
