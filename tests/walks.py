"""Going on step by step, as the document words it, and a check of the rows that are told."""

from tests.support import led_back


def singles(board):
    """All single presses of a board, with their turns."""
    return [((name, number), turn if number == 1 else led_back(turn))
            for name, turn in board.buttons for number in (1, -1)]


def layers(start, after):
    """Lists of what is come to from the start by 0, 1, 2 .. steps and by no fewer; `after` lists what comes of one."""
    met, found = {start}, [[start]]
    while found[-1]:
        found.append([])
        for here in found[-2]:
            for there in after(here):
                if there not in met:
                    met.add(there)
                    found[-1].append(there)
    return found[:-1]


def steps_of(start, after):
    """How many steps each thing takes that is come to from the start."""
    return {thing: many for many, layer in enumerate(layers(start, after)) for thing in layer}


def behind_turn(standing, turn):
    """The standing behind a turn: each thing, and each emptiness, has gone where the turn leads it."""
    signs = [None] * len(standing)
    for place, goal in enumerate(turn):
        signs[goal] = standing[place]
    return "".join(signs)


class Walking:
    """Checks of rows for tests that are `Telling` too."""

    def is_single_row(self, row, board):
        """It is a row of single presses of the board."""
        self.assertIs(type(row), tuple)
        for press in row:
            self.assertIs(type(press), tuple)
            self.assertIn(press, [single for single, _ in singles(board)])
            self.assertIs(type(press[1]), int)

    def gives_any(self, call, *arguments):
        """What the call gives, always the same, by position and by name."""
        found = call(*arguments)
        self.gives(found, call, *arguments)
        return found
