"""Groups of turns, level by level: which turns leave ever more places where they are.

A tower has one level for each place of its line, a tuple of all places. A level knows, for each
place to which its own one is led by turns of the group that leave all places of the line ahead of
it where they are, such a turn. All turns that are met are steps of a making. There are far fewer
of them than a making may have: each maker of a level makes its group greater, and among the turns
of n places there are never 2 n groups of which each one is greater than the one before it.
"""

from seatbuttons.boards import check_board_and_turn
from seatbuttons.errors import NotInside, TooMany
from seatbuttons.limits import MOST_TURNS
from seatbuttons.unchecked import led_back, one_then, product_of, staying


class Level:
    """What is known of the turns that leave all places of the line ahead of this one."""

    def __init__(self, place):
        self.place = place
        self.makers = []
        self.leading = {place: 0}


class Tower:
    """The levels of a group, and the steps that make its turns; with the step 0 all stay."""

    def __init__(self, line):
        self.steps = [None]
        self.turns = [staying(len(line))]
        self.backs = [staying(len(line))]
        self.levels = [Level(place) for place in line]

    def step_with(self, step, turn):
        """The index of a new step that makes this turn."""
        self.steps.append(step)
        self.turns.append(turn)
        self.backs.append(led_back(turn))
        return len(self.steps) - 1

    def step_then(self, one, other):
        """The index of a new step that makes the turn of the one, then that of the other."""
        return self.step_with((one, other), one_then(self.turns[one], self.turns[other]))

    def step_back(self, step):
        """The index of a new step that makes the turn that leads back from that of a step."""
        return self.step_with(step, self.backs[step])

    def way_down(self, turn):
        """The steps whose turns are taken from a turn, level by level, and what is left of it.

        Where it falls out nothing more is taken; what is left then is not that all stay.
        """
        taken = []
        for level in self.levels:
            goal = turn[level.place]
            if goal not in level.leading:
                return taken, turn
            taken.append(level.leading[goal])
            if goal != level.place:
                turn = one_then(turn, self.backs[level.leading[goal]])
        return taken, turn

    def comes_down(self, turn):
        return self.way_down(turn)[1] == self.turns[0]

    def take(self, step, turn):
        """Adds a turn, made by this step, to the whole group, and tells whether it was not in it."""
        if self.comes_down(turn):
            return False
        self.let_in(self.step_with(step, turn), 0)
        return True

    def let_in(self, step, first):
        """Adds the turn of a step, which does not come down, to the group of the level `first`.

        The turn leaves all places ahead of that level where they are. The levels behind it are
        complete before this and behind it: each turn that their makers make comes down.
        Schreier: what has to come down from the next level on, for each turn with which this one
        leads somewhere and each of its makers, is the turn, then the maker, then what leads back
        from the same place; such turns make all that leave the place of this level where it is.
        """
        level = self.levels[first]
        level.makers.append(step)
        waiting = [(leading, step) for leading in level.leading.values()]
        at = 0
        while at < len(waiting):
            one, other = waiting[at]
            at = at + 1
            goal = self.turns[other][self.turns[one][level.place]]
            if goal in level.leading:
                self.close(one, other, level.leading[goal], first + 1)
            else:
                level.leading[goal] = self.step_then(one, other)
                waiting.extend([(level.leading[goal], maker) for maker in level.makers])

    def close(self, one, other, leading, first):
        """Lets in the one, then the other, then back from what leads to the same place, if needed."""
        turn = one_then(one_then(self.turns[one], self.turns[other]), self.backs[leading])
        if not self.comes_down(turn):
            self.let_in(self.step_then(self.step_then(one, other), self.step_back(leading)), first)


def tower_of(board, line):
    """The tower of the group of a board, with this line of all places."""
    tower = Tower(line)
    for name, turn in board.buttons:
        tower.take(name, turn)
    # From here on nothing is let in: levels that lead nowhere tell nothing more.
    tower.levels = [level for level in tower.levels if len(level.leading) > 1]
    return tower


def whole_tower(board):
    """The tower of a board whose line are all places in their order: its levels are the base's."""
    return tower_of(board, staying(board.size))


def tower_with(board, turn):
    """The tower of a board; raises an error if the turn is none of the board's."""
    check_board_and_turn(board, turn)
    tower = whole_tower(board)
    if not tower.comes_down(turn):
        raise NotInside(len(tower.way_down(turn)[0]))
    return tower


def count_turns(levels):
    """How many turns a tower with these levels has."""
    return product_of([len(level.leading) for level in levels])


def check_few_turns(tower):
    """Raises an error if the tower's group has more turns than are gone through."""
    if count_turns(tower.levels) > MOST_TURNS:
        raise TooMany(MOST_TURNS)


def all_turns(tower):
    """The list of all turns of a tower's group, if they are not too many to go through."""
    check_few_turns(tower)
    turns = [tower.turns[0]]
    for level in tower.levels[::-1]:
        leading = [tower.turns[step] for step in level.leading.values()]
        turns = [one_then(turn, last) for last in leading for turn in turns]
    return turns
