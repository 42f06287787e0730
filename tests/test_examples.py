"""The examples of the document as they are printed there, in one session from top to bottom."""

import unittest

EXAMPLES = """
>>> from seatbuttons.turns import back, back_after_turn, commutes, is_even, kind_of, moved, power, rings, root, roots, then, turn_of, turned_by
>>> swap, ring = (1, 0, 2), (1, 2, 0)
>>> [rings(swap), kind_of(swap), is_even(swap), is_even(ring), then(swap, ring), then(ring, swap), back(ring), power(ring, -1), power(ring, 10 ** 20), back_after_turn(swap)]
[((0, 1), (2,)), (2, 1), False, True, (2, 1, 0), (0, 2, 1), (2, 0, 1), (2, 0, 1), (1, 2, 0), 2]
>>> [turn_of(4, ((2, 0),)), turn_of(2, ()), moved(swap), turned_by(ring, swap), commutes(swap, ring), commutes(ring, back(ring)), roots((0, 1, 2), 2), root(swap, 2), root(ring, 2)]
[(2, 1, 0, 3), (0, 1), (0, 1), (0, 2, 1), False, True, 4, None, (2, 0, 1)]
>>> from seatbuttons.kinds import all_kinds, back_after, first_turn, how_many_turns, kind_power
>>> [all_kinds(4), len(all_kinds(24)), how_many_turns((2, 1)), how_many_turns((2, 2)), first_turn((3, 1)), kind_power((6, 4), 2), back_after((3, 2))]
[((4,), (3, 1), (2, 2), (2, 1, 1), (1, 1, 1, 1)), 1575, 3, 3, (1, 2, 0, 3), (3, 3, 2, 2), 6]
"""


def told_error(error):
    """An error as the document prints it."""
    shown = ", ".join(f"{name}={value!r}" for name, value in vars(error).items())
    return f"raises {type(error).__name__}({shown})"


def answered(source, names):
    """What a line of the session shows, None if nothing."""
    try:
        try:
            compiled = compile(source, "example", "eval")
        except SyntaxError:
            exec(source, names)
            return None
        shown = eval(compiled, names)
        return None if shown is None else repr(shown)
    except Exception as error:
        if type(error).__module__ != "seatbuttons.errors":
            raise
        return told_error(error)


class Examples(unittest.TestCase):
    def test_examples(self):
        names = {}
        lines = EXAMPLES.strip().split("\n")
        for line, following in zip(lines, lines[1:] + [">>> "]):
            if line.startswith(">>> "):
                told = None if following.startswith(">>> ") else following
                self.assertEqual(answered(line[4:], names), told, line)


if __name__ == "__main__":
    unittest.main()
