"""Groups of turns, level by level: which turns leave ever more places where they are.

A tower holds one level for each place of its line, a tuple of all places. A level knows, for each
place to which its own one is led by turns of the group that leave all places of the line ahead of
it where they are, such a turn. All turns that are met are steps of a making.
"""

from seatbuttons.unchecked import led_back, one_then, staying


class Level:
    """What is known of the turns that leave all places of the line ahead of this one."""

    def __init__(self, place):
        self.place = place
        self.makers = []
        self.leading = {place: 0}


class Tower:
    """The levels of a group, and the steps that make its turns; with the step 0 all stay."""

    def __init__(self, line):
        self.steps = [None]
        self.turns = [staying(len(line))]
        self.backs = [staying(len(line))]
        self.levels = [Level(place) for place in line]

    def step_with(self, step, turn):
        """The index of a new step that makes this turn."""
        self.steps.append(step)
        self.turns.append(turn)
        self.backs.append(led_back(turn))
        return len(self.steps) - 1

    def step_then(self, one, other):
        """The index of a step that makes the turn of the one, then that of the other."""
        if one == 0 or other == 0:
            return one + other
        return self.step_with((one, other), one_then(self.turns[one], self.turns[other]))

    def step_from(self, one, other):
        """The index of a step that makes the turn of the one, then the one back from the other."""
        if other == 0:
            return one
        return self.step_then(one, self.step_with(other, self.backs[other]))

    def rest_of(self, turn, first):
        """What is left of a turn that is taken down from a level on, None if it falls out."""
        for level in self.levels[first:]:
            if level.place != turn[level.place]:
                if turn[level.place] not in level.leading:
                    return None
                turn = one_then(turn, self.backs[level.leading[turn[level.place]]])
        return turn

    def comes_down(self, turn, first):
        return self.rest_of(turn, first) == self.turns[0]

    def way_down(self, turn):
        """The steps whose turns are taken from a turn, level by level, until it falls out."""
        taken = []
        for level in self.levels:
            if turn[level.place] not in level.leading:
                return taken
            taken.append(level.leading[turn[level.place]])
            turn = one_then(turn, self.backs[taken[-1]])
        return taken

    def let_in(self, step, first):
        """Adds the turn of a step, which falls out from the level `first` on, to its group.

        All levels behind `first` are complete before and behind this: each turn that their
        makers make comes down. Schreier: the makers of the next level have to make, for each turn
        with which this level leads somewhere and each of its makers, the turn, then the maker,
        then what leads back from the turn that leads to the same place.
        """
        level = self.levels[first]
        level.makers.append(step)
        waiting = [(leading, step) for leading in level.leading.values()]
        at = 0
        while at < len(waiting):
            one, other = waiting[at]
            at = at + 1
            goal = self.turns[other][self.turns[one][level.place]]
            if goal not in level.leading:
                level.leading[goal] = self.step_then(one, other)
                waiting.extend([(level.leading[goal], maker) for maker in level.makers])
            else:
                self.close(one, other, level.leading[goal], first + 1)

    def close(self, one, other, leading, first):
        """Lets in the one, then the other, then back from what leads to the same place, if needed."""
        turn = one_then(one_then(self.turns[one], self.turns[other]), self.backs[leading])
        if not self.comes_down(turn, first):
            self.let_in(self.step_from(self.step_then(one, other), leading), first)


def tower_of(board, line):
    """The tower of the group of a board, with this line of all places."""
    tower = Tower(line)
    for name, turn in board.buttons:
        if not tower.comes_down(turn, 0):
            tower.let_in(tower.step_with(name, turn), 0)
    # From here on nothing is let in: levels that lead nowhere tell nothing more.
    tower.levels = [level for level in tower.levels if len(level.leading) > 1]
    return tower
