import unittest

from seatbuttons import errors
from seatbuttons.errors import NotKnown, NotPossible, NotRight
from tests.support import NO_PLACES, Agreeing, Stubborn, Telling, nested

GIVEN = """InvalidText InvalidNumber InvalidName InvalidIndex InvalidTurn InvalidKind InvalidPlace
    InvalidStanding InvalidCounts InvalidLook InvalidClaim InvalidCommand NotABoard NotARiddle
    NotAMaze NotAThing""".split()
INDEX = """InvalidButtons InvalidTies InvalidNames InvalidRow InvalidPlaces InvalidBlock
    InvalidMaking InvalidWay InvalidSteps InvalidLooks InvalidStandings InvalidDeeds""".split()
KNOWN = {"UnknownName": ["given"], "InUse": ["index"], "NothingToUndo": []}
POSSIBLE = {
    "OtherSize": [], "Barred": ["by"], "TooMany": ["most"], "NotInside": ["level"],
    "NotLed": ["one", "other"], "NotABlock": ["given"], "NotShortest": ["given"], "NoSlide": [],
    "Impossible": [], "Broken": ["index", "shown"],
}
BASES = {NotRight: ValueError, NotKnown: LookupError, NotPossible: ArithmeticError}


def told_classes():
    """Each class with its base class and the names of its attributes."""
    rows = [(name, NotRight, ["given"]) for name in GIVEN]
    rows += [(name, NotRight, ["index"]) for name in INDEX]
    rows += [(name, NotKnown, names) for name, names in KNOWN.items()]
    rows += [(name, NotPossible, names) for name, names in POSSIBLE.items()]
    return [(getattr(errors, name), base, names) for name, base, names in rows]


VALUES = NO_PLACES + [(1, 0), [1, [2]], {"a": 1}, 7, "a b", "x" * 8000, nested(20), Stubborn(), Agreeing()]


class Errors(Telling):
    def test_there_are_41_and_three_bases(self):
        self.assertEqual(len(told_classes()), 41)
        there = [value for value in vars(errors).values() if isinstance(value, type)]
        self.assertEqual(len(there), 44)

    def test_each_base_stands_under_its_python_class_alone(self):
        for base, python_class in BASES.items():
            self.assertEqual(base.__bases__, (python_class,))

    def test_each_class_stands_under_its_base_and_no_other_of_the_package(self):
        for error, base, _ in told_classes():
            own = [above for above in error.__mro__ if above.__module__.startswith("seatbuttons")]
            self.assertEqual(own, [error, base])
            for other in BASES:
                self.assertEqual(issubclass(error, other), other is base)
            for other in BASES.values():
                self.assertEqual(issubclass(error, other), other is BASES[base])

    def test_each_class_is_defined_in_its_file(self):
        for error, base, _ in told_classes():
            self.assertEqual(error.__module__, "seatbuttons.errors")
            self.assertEqual(base.__module__, "seatbuttons.errors")

    def test_names_of_the_arguments(self):
        for error, _, names in told_classes():
            self.takes(error, *names)

    def test_attributes_are_the_very_ones_that_were_passed(self):
        for error, _, names in told_classes():
            for at in range(len(VALUES)):
                passed = [VALUES[(at + step) % len(VALUES)] for step in range(len(names))]
                for made in (error(*passed), error(**dict(zip(names, passed)))):
                    self.assertEqual(sorted(vars(made)), sorted(names))
                    for name, value in zip(names, passed):
                        self.assertIs(getattr(made, name), value)

    def test_other_numbers_of_arguments_are_not_taken(self):
        for error, _, names in told_classes():
            self.assertRaises(TypeError, error, *range(len(names) + 1))
            if names:
                self.assertRaises(TypeError, error)

    def test_raised_and_caught_by_the_base(self):
        for error, base, names in told_classes():
            passed = [Stubborn() for _ in names]
            for caught in (error, base, BASES[base], Exception):
                made = error(*passed)
                with self.assertRaises(caught) as told:
                    raise made
                self.assertIs(told.exception, made)

    def test_messages_can_be_shown_whatever_the_attributes_are(self):
        class Unshown:
            def __repr__(self):
                raise AssertionError("was shown")

        for error, _, names in told_classes():
            for value in (Unshown(), 10 ** 5000):
                made = error(*[value for _ in names])
                self.assertEqual(str(made), str(error(*[1 for _ in names])))
                self.assertTrue(str(made))


if __name__ == "__main__":
    unittest.main()
