"""The errors of the package: three base classes, and the classes under each of them.

The messages are fixed texts and never show the attributes: these may be values of any kind,
also ones that cannot be shown.
"""


class NotRight(ValueError):
    """What is passed is not of the form that is asked for."""


class InvalidText(NotRight):
    def __init__(self, given):
        super().__init__("not a text of the form that is asked for")
        self.given = given


class InvalidNumber(NotRight):
    def __init__(self, given):
        super().__init__("not an integer of those that are asked for")
        self.given = given


class InvalidName(NotRight):
    def __init__(self, given):
        super().__init__("not a name that can be given")
        self.given = given


class InvalidIndex(NotRight):
    def __init__(self, given):
        super().__init__("not an index of what is there")
        self.given = given


class InvalidTurn(NotRight):
    def __init__(self, given):
        super().__init__("not a turn, or not the rings of one")
        self.given = given


class InvalidKind(NotRight):
    def __init__(self, given):
        super().__init__("not a kind")
        self.given = given


class InvalidPlace(NotRight):
    def __init__(self, given):
        super().__init__("not a place of the board")
        self.given = given


class InvalidStanding(NotRight):
    def __init__(self, given):
        super().__init__("not a standing of these places")
        self.given = given


class InvalidCounts(NotRight):
    def __init__(self, given):
        super().__init__("not counts of signs for these places")
        self.given = given


class InvalidLook(NotRight):
    def __init__(self, given):
        super().__init__("not a look")
        self.given = given


class InvalidClaim(NotRight):
    def __init__(self, given):
        super().__init__("not a claim")
        self.given = given


class InvalidCommand(NotRight):
    def __init__(self, given):
        super().__init__("not a command")
        self.given = given


class NotABoard(NotRight):
    def __init__(self, given):
        super().__init__("not a board")
        self.given = given


class NotARiddle(NotRight):
    def __init__(self, given):
        super().__init__("not a riddle")
        self.given = given


class NotAMaze(NotRight):
    def __init__(self, given):
        super().__init__("not a maze")
        self.given = given


class NotAThing(NotRight):
    def __init__(self, given):
        super().__init__("neither a board nor a standing")
        self.given = given


class InvalidButtons(NotRight):
    def __init__(self, index):
        super().__init__("not a tuple of buttons")
        self.index = index


class InvalidTies(NotRight):
    def __init__(self, index):
        super().__init__("not a tuple of ties")
        self.index = index


class InvalidNames(NotRight):
    def __init__(self, index):
        super().__init__("not a tuple of such names")
        self.index = index


class InvalidRow(NotRight):
    def __init__(self, index):
        super().__init__("not a row of presses")
        self.index = index


class InvalidPlaces(NotRight):
    def __init__(self, index):
        super().__init__("not a tuple of such places")
        self.index = index


class InvalidBlock(NotRight):
    def __init__(self, index):
        super().__init__("not an ascending tuple of places")
        self.index = index


class InvalidMaking(NotRight):
    def __init__(self, index):
        super().__init__("not a making")
        self.index = index


class InvalidWay(NotRight):
    def __init__(self, index):
        super().__init__("not a way")
        self.index = index


class InvalidSteps(NotRight):
    def __init__(self, index):
        super().__init__("not a tuple of steps")
        self.index = index


class InvalidLooks(NotRight):
    def __init__(self, index):
        super().__init__("not a tuple of looks")
        self.index = index


class InvalidStandings(NotRight):
    def __init__(self, index):
        super().__init__("not a tuple of standings")
        self.index = index


class InvalidDeeds(NotRight):
    def __init__(self, index):
        super().__init__("not a tuple of deeds")
        self.index = index


class NotKnown(LookupError):
    """What is asked for is not there, or is needed where it is."""


class UnknownName(NotKnown):
    def __init__(self, given):
        super().__init__("nothing has this name")
        self.given = given


class InUse(NotKnown):
    def __init__(self, index):
        super().__init__("a claim names it")
        self.index = index


class NothingToUndo(NotKnown):
    def __init__(self):
        super().__init__("nothing is left to take back")


class NotPossible(ArithmeticError):
    """What is asked for cannot be, or cannot be told."""


class OtherSize(NotPossible):
    def __init__(self):
        super().__init__("not of as many places")


class Barred(NotPossible):
    def __init__(self, by):
        super().__init__("something bars it")
        self.by = by


class TooMany(NotPossible):
    def __init__(self, most):
        super().__init__("more than are gone through")
        self.most = most


class NotInside(NotPossible):
    def __init__(self, level):
        super().__init__("not a turn of the board")
        self.level = level


class NotLed(NotPossible):
    def __init__(self, one, other):
        super().__init__("the one place is not led to the other")
        self.one = one
        self.other = other


class NotABlock(NotPossible):
    def __init__(self, given):
        super().__init__("not a block")
        self.given = given


class NotShortest(NotPossible):
    def __init__(self, given):
        super().__init__("not a shortest one")
        self.given = given


class NoSlide(NotPossible):
    def __init__(self):
        super().__init__("not a slide")


class Impossible(NotPossible):
    def __init__(self):
        super().__init__("nothing fits")


class Broken(NotPossible):
    def __init__(self, index, shown):
        super().__init__("a claim does not hold")
        self.index = index
        self.shown = shown
